package consent

import (
	"encoding/base64"
	"fmt"
	"math"
	"math/rand"
	"slices"
	"strings"
	"testing"
	"time"

	"gingersnap/api"
)

func same(a, b api.Consent) bool {
	return a.Given == b.Given && a.Purposes == b.Purposes && slices.Equal(a.Vendors, b.Vendors)
}

func checks(t *testing.T, c api.Consent, want api.Errno) {
	t.Helper()
	if e := Check(c); e != want {
		t.Errorf("Check(%v) is %d, must be %d", c, e, want)
	}
}

// wrong: a consent that is none, and is not written either.
func wrong(t *testing.T, c api.Consent, want api.Errno) {
	t.Helper()
	checks(t, c, want)
	writes(t, c, "", want)
}

func writes(t *testing.T, c api.Consent, want string, e api.Errno) {
	t.Helper()
	if got, f := Write(c); got != want || f != e {
		t.Errorf("Write(%v) is %q %d, must be %q %d", c, got, f, want, e)
	}
}

func reads(t *testing.T, s string, want api.Consent, e api.Errno) {
	t.Helper()
	if got, f := Read(s); !same(got, want) || f != e {
		t.Errorf("Read(%q) is %v %d, must be %v %d", s, got, f, want, e)
	}
}

// bad: a text that is not read.
func bad(t *testing.T, s string, e api.Errno) {
	t.Helper()
	reads(t, s, api.Consent{}, e)
}

// both: a consent, and its text.
func both(t *testing.T, c api.Consent, s string) {
	t.Helper()
	checks(t, c, api.OK)
	writes(t, c, s, api.OK)
	reads(t, s, c, api.OK)
}

// letters of bits that are told as noughts and ones, blanks among them left away, by the library.
func letters(bits string) string {
	bits = strings.ReplaceAll(bits, " ", "")
	bits += strings.Repeat("0", (8-len(bits)%8)%8)
	var out []byte
	for i := 0; i < len(bits); i += 8 {
		var b byte
		for _, c := range bits[i : i+8] {
			b = b<<1 | byte(c-'0')
		}
		out = append(out, b)
	}
	return base64.RawURLEncoding.EncodeToString(out)
}

// number in so many bits.
func number(n, width int) string { return fmt.Sprintf("%0*b", width, n) }

// head of a consent without purposes that was given at 0.
func head(last int) string { return number(1, 6) + number(0, 46) + number(last, 6) }

// runs: each is a vendor, or its first one and its last one.
func runs(l ...[]int) string {
	out := "1" + number(len(l), 6)
	for _, r := range l {
		out += number(len(r)-1, 1)
		for _, v := range r {
			out += number(v, 6)
		}
	}
	return out
}

// of: a consent to vendors alone.
func of(vendors ...int) api.Consent { return api.Consent{Vendors: vendors} }

// upTo: the vendors from one to another.
func upTo(first, last int) []int {
	var out []int
	for v := first; v <= last; v++ {
		out = append(out, v)
	}
	return out
}

func TestM1Given(t *testing.T) {
	for _, n := range []int{0, 1, 1000, 1 << 35, api.MaxGiven - 1, api.MaxGiven} {
		checks(t, api.Consent{Given: n}, api.OK)
	}
	for _, n := range []int{math.MinInt, -1 << 36, -1, api.MaxGiven + 1, 1 << 40, math.MaxInt} {
		wrong(t, api.Consent{Given: n}, api.ErrRange)
		wrong(t, api.Consent{Given: n, Vendors: []int{3, 3}}, api.ErrRange)
	}
}

func TestM1Vendors(t *testing.T) {
	checks(t, api.Consent{Vendors: []int{}}, api.OK)
	checks(t, of(upTo(1, 40)...), api.OK)
	for v := -70; v <= 110; v++ {
		if 1 <= v && v <= 40 {
			checks(t, of(v), api.OK)
		} else {
			wrong(t, of(v), api.ErrRange)
		}
		for b := 1; b <= 40; b++ {
			switch {
			case v < 1 || v > 40:
				wrong(t, of(b, v), api.ErrRange)
			case v <= b:
				wrong(t, of(b, v), api.ErrState)
			default:
				checks(t, of(b, v), api.OK)
			}
		}
	}
	for _, v := range []int{math.MinInt, math.MaxInt, 1<<32 + 1, 1<<62 + 3} {
		wrong(t, of(v), api.ErrRange)
		wrong(t, of(1, v), api.ErrRange)
	}
}

// TestM1Order: the first vendor that is wrong tells.
func TestM1Order(t *testing.T) {
	wrong(t, of(3, 3, 41), api.ErrState)
	wrong(t, of(3, 2, 0), api.ErrState)
	wrong(t, of(41, 3, 3), api.ErrRange)
	wrong(t, of(3, 0, 3, 3), api.ErrRange)
	wrong(t, of(1, 2, 3, 2, 41), api.ErrState)
	wrong(t, of(1, 2, 41, 2), api.ErrRange)
	wrong(t, of(append(upTo(1, 40), 40)...), api.ErrState)
	wrong(t, of(append(upTo(1, 40), 41)...), api.ErrRange)
}

func TestM2Head(t *testing.T) {
	both(t, api.Consent{}, "BAAAAAAAAAA")
	both(t, api.Consent{}, letters(head(0)+"0"))
	both(t, api.Consent{Given: 1}, letters(number(1, 6)+number(1, 36)+number(0, 17)))
	both(t, api.Consent{Given: api.MaxGiven}, letters(number(1, 6)+strings.Repeat("1", 36)+number(0, 17)))
	for i := range 36 {
		both(t, api.Consent{Given: 1 << i}, letters(number(1, 6)+number(1<<i, 36)+number(0, 17)))
	}
	for i := range 10 {
		var c api.Consent
		c.Purposes[i] = true
		both(t, c, letters(number(1, 6)+number(0, 36)+number(1<<(9-i), 10)+number(0, 7)))
	}
	some := [10]bool{0: true, 3: true, 9: true}
	both(t, api.Consent{Given: 1000, Purposes: some, Vendors: []int{2, 3, 4, 9}}, letters("000001"+number(1000, 36)+"1001000001 001001 0 011100001"))
	both(t, api.Consent{Given: 1000, Purposes: some, Vendors: []int{2, 3, 4, 9}}, "BAAAAPokEk4Q")
}

// TestM2Shorter: of vendors as bits and vendors as runs the shorter ones are written; the bits, if they are equally long.
func TestM2Shorter(t *testing.T) {
	both(t, of(1), letters(head(1)+"0 1"))
	both(t, of(2), letters(head(2)+"0 01"))
	both(t, of(12), letters(head(12)+"0"+number(1, 12)))
	both(t, of(13), letters(head(13)+"0"+number(1, 13)))
	both(t, of(14), letters(head(14)+runs([]int{14})))
	both(t, of(40), letters(head(40)+runs([]int{40})))
	both(t, of(18, 19), letters(head(19)+"0"+number(3, 19)))
	both(t, of(19, 20), letters(head(20)+runs([]int{19, 20})))
	both(t, of(upTo(1, 19)...), letters(head(19)+"0"+strings.Repeat("1", 19)))
	both(t, of(upTo(1, 20)...), letters(head(20)+runs([]int{1, 20})))
	both(t, of(upTo(1, 40)...), letters(head(40)+runs([]int{1, 40})))
	both(t, of(1, 20), letters(head(20)+"0"+"1"+number(1, 19)))
	both(t, of(1, 21), letters(head(21)+runs([]int{1}, []int{21})))
	both(t, of(1, 2, 26), letters(head(26)+"0"+"11"+number(1, 24)))
	both(t, of(1, 2, 27), letters(head(27)+runs([]int{1, 2}, []int{27})))
	both(t, of(20, 21, 22, 40), letters(head(40)+runs([]int{20, 22}, []int{40})))
	both(t, of(30, 31, 39, 40), letters(head(40)+runs([]int{30, 31}, []int{39, 40})))
	both(t, of(1, 3, 5, 40), letters(head(40)+runs([]int{1}, []int{3}, []int{5}, []int{40})))
	both(t, of(1, 3, 5, 7, 40), letters(head(40)+"0 1010101"+number(1, 33)))
	var odd []int
	for v := 1; v < 40; v += 2 {
		odd = append(odd, v)
	}
	both(t, of(odd...), letters(head(39)+"0"+strings.Repeat("10", 19)+"1"))
}

// TestM3Letters: what is wrong with the letters tells ahead of all else.
func TestM3Letters(t *testing.T) {
	for _, s := range []string{"A", "B", "=", "!!", "BA=", "AA==", "BB", "BAB", "BAAAAAAAAAA ", "BAAAAAAAAAAAA", "CAAAAAAAAAAAA", "BAAAAAAAAAB", "+AAA", strings.Repeat("A", 801)} {
		bad(t, s, api.ErrForm)
	}
	for _, s := range []string{strings.Repeat("A", 800), strings.Repeat("B", 536), "BAAAAAAAAAA" + strings.Repeat("A", 525)} {
		bad(t, s, api.ErrMany)
	}
}

// TestM3Kind: six bits are enough to tell another version.
func TestM3Kind(t *testing.T) {
	bad(t, "", api.ErrNone)
	for n := range 64 {
		want := [4]api.Errno{api.ErrKind, api.ErrKind, api.ErrKind, api.ErrKind}
		if n == 1 {
			want = [4]api.Errno{api.ErrNone, api.ErrNone, api.OK, api.ErrForm}
		}
		bad(t, letters(number(n, 6)), want[0])
		bad(t, letters(number(n, 6)+number(0, 42)), want[1])
		reads(t, letters(number(n, 6)+number(0, 53)), api.Consent{}, want[2])
		bad(t, letters(number(n, 6)+number(0, 53)+number(0, 80)), want[3])
	}
	reads(t, letters(number(1, 6)+number(0, 53)), api.Consent{}, api.OK)
}

// TestM3None: a text with less bits than it takes, whole bytes of them.
func TestM3None(t *testing.T) {
	for _, bits := range []string{
		head(0) + "0",
		head(40) + runs([]int{1, 40}),
		head(13) + "0" + number(1, 13),
		head(63) + "0" + strings.Repeat("0", 63),
		head(63) + "0" + strings.Repeat("1", 63),
		head(41) + "0" + number(1, 41),
		head(0) + runs(slices.Repeat([][]int{{1, 40}}, 63)...),
		head(63) + runs(slices.Repeat([][]int{{63}}, 63)...),
		head(40) + runs([]int{50}, []int{3, 2}, []int{40}),
	} {
		whole := len(bits) + (8-len(bits)%8)%8
		for n := 8; n < whole; n += 8 {
			bad(t, letters(bits[:n]), api.ErrNone)
		}
		if _, e := Read(letters(bits)); e != api.OK && e != api.ErrForm {
			t.Errorf("Read of %s is %d", bits, e)
		}
		bad(t, letters(bits+strings.Repeat("0", 8+whole-len(bits))), api.ErrForm)
	}
}

// TestM3Form: bits that tell something, but not as it is written.
func TestM3Form(t *testing.T) {
	for _, bits := range []string{
		head(0) + runs(),
		head(1) + "0 0",
		head(13) + "0" + number(2, 13),
		head(13) + runs([]int{13}),
		head(19) + runs([]int{18, 19}),
		head(14) + "0" + number(1, 14),
		head(20) + "0" + number(3, 20),
		head(3) + "0 011 1",
		head(41) + "0" + number(1, 41),
		head(63) + "0" + number(1, 63),
		head(63) + "0" + number(1<<23, 63),
		head(0) + runs([]int{40}),
		head(39) + runs([]int{40}),
		head(41) + runs([]int{40}),
		head(40) + runs([]int{40, 40}),
		head(40) + runs([]int{38, 39}, []int{40}),
		head(40) + runs([]int{39}, []int{40}),
		head(40) + runs([]int{20, 30}, []int{31, 40}),
		head(40) + runs([]int{20, 30}, []int{30, 40}),
		head(40) + runs([]int{40}, []int{20}),
		head(40) + runs([]int{40}, []int{40}),
		head(40) + runs([]int{20, 22}, []int{40, 39}),
		head(40) + runs([]int{40}, []int{40, 39}),
		head(40) + runs([]int{40, 39}, []int{40}),
		head(41) + runs([]int{41}),
		head(41) + runs([]int{30, 41}),
		head(63) + runs([]int{63}),
		head(63) + runs([]int{0, 63}),
		head(0) + runs([]int{0}),
		head(40) + runs([]int{0}, []int{40}),
		head(40) + runs([]int{0, 40}),
		head(40) + runs([]int{1, 40}) + "01",
	} {
		bad(t, letters(bits), api.ErrForm)
	}
	for i := 59; i < 64; i++ {
		bad(t, letters(head(0)+number(1<<(63-i), 6)), api.ErrForm)
	}
}

// some consent that may be written.
func some(r *rand.Rand) api.Consent {
	c := api.Consent{Given: r.Intn(1 << (1 + r.Intn(36)))}
	for i := range c.Purposes {
		c.Purposes[i] = r.Intn(2) == 0
	}
	in, stay, most := r.Intn(2) == 0, 1+r.Intn(40), r.Intn(41)
	for v := 1; v <= most; v++ {
		if r.Intn(stay) == 0 {
			in = !in
		}
		if in {
			c.Vendors = append(c.Vendors, v)
		}
	}
	return c
}

// model of Write: the bits of a consent.
func model(c api.Consent) string {
	out := number(1, 6) + number(c.Given, 36)
	for _, p := range c.Purposes {
		if p {
			out += "1"
		} else {
			out += "0"
		}
	}
	last := 0
	plain := []byte(strings.Repeat("0", 41))
	var l [][]int
	for _, v := range c.Vendors {
		if n := len(l); plain[v-1] == '0' {
			l = append(l, []int{v})
		} else {
			l[n-1] = []int{l[n-1][0], v}
		}
		plain[v], last = '1', v
	}
	asBits, asRuns := "0"+string(plain[1:last+1]), runs(l...)
	if len(asBits) > len(asRuns) {
		asBits = asRuns
	}
	return out + number(last, 6) + asBits
}

// TestM4: no two consents are one text, since each one is read again as it was.
func TestM4(t *testing.T) {
	r := rand.New(rand.NewSource(1))
	asRuns := 0
	for range 20000 {
		c := some(r)
		bits := model(c)
		both(t, c, letters(bits))
		if bits[58] == '1' {
			asRuns++
		}
	}
	if asRuns < 2000 || asRuns > 18000 {
		t.Errorf("%d of them were written as runs", asRuns)
	}
}

// TestM4Vendors: vendors alone, all sets of those up to 12, and all of at most two runs.
func TestM4Vendors(t *testing.T) {
	for set := range 1 << 12 {
		var l []int
		for v := range 12 {
			if set>>v&1 == 1 {
				l = append(l, v+1)
			}
		}
		both(t, of(l...), letters(model(of(l...))))
	}
	for first := 1; first <= 40; first++ {
		for last := first; last <= 40; last++ {
			one := of(upTo(first, last)...)
			both(t, one, letters(model(one)))
			for next := last + 2; next <= 40; next += 3 {
				two := of(append(upTo(first, last), upTo(next, 40)...)...)
				both(t, two, letters(model(two)))
			}
		}
	}
}

// tells: the number at a place, of noughts where there is nothing any more.
func tells(bits string, at, width int) int {
	n := 0
	for i := at; i < at+width; i++ {
		n *= 2
		if i < len(bits) && bits[i] == '1' {
			n++
		}
	}
	return n
}

// takes: how many bits a text takes that begins by these.
func takes(bits string) int {
	if tells(bits, 58, 1) == 0 {
		return 59 + tells(bits, 52, 6)
	}
	at := 65
	for range tells(bits, 59, 6) {
		at += 7 + 6*tells(bits, at, 1)
	}
	return at
}

// TestM4Texts: no two texts are one consent, since each that is read is written again as it was; and of those that are not read it is told why.
func TestM4Texts(t *testing.T) {
	r := rand.New(rand.NewSource(2))
	var told [api.ErrKind + 1]int
	for range 40000 {
		bits := []byte(model(some(r)))
		for range r.Intn(4) {
			bits[r.Intn(len(bits))] ^= 1
		}
		bits = bits[:len(bits)-r.Intn(1+len(bits)/3)]
		s, whole := letters(string(bits)), (len(bits)+7)/8*8
		c, e := Read(s)
		told[e]++
		switch {
		case tells(string(bits), 0, 6) != 1:
			bad(t, s, api.ErrKind)
		case takes(string(bits)) > whole:
			bad(t, s, api.ErrNone)
		case e == api.OK:
			both(t, c, s)
		default:
			bad(t, s, api.ErrForm)
		}
	}
	for _, e := range []api.Errno{api.OK, api.ErrForm, api.ErrNone, api.ErrKind} {
		if told[e] < 1000 {
			t.Errorf("%d is told of %d alone", e, told[e])
		}
	}
}

// TestP2: what is handed in is only read, the spare room behind it too, and no two answers share memory.
func TestP2(t *testing.T) {
	whole := []int{3, 9, 17, 5}
	c := api.Consent{Vendors: whole[:2]}
	s, e := Write(c)
	if e != api.OK || s != letters(model(of(3, 9))) || !slices.Equal(whole, []int{3, 9, 17, 5}) {
		t.Error("Write changed what it was handed, or read behind it")
	}
	for _, text := range []string{s, letters(model(of(upTo(20, 40)...)))} {
		first, _ := Read(text)
		second, _ := Read(text)
		want := slices.Clone(second.Vendors)
		l := first.Vendors[:cap(first.Vendors)]
		for i := range l {
			l[i] = 99
		}
		if !slices.Equal(second.Vendors, want) {
			t.Error("two answers share memory")
		}
		reads(t, text, second, api.OK)
	}
}

// TestP1P3: no call panics; with an error there is nothing else; and what was asked between changes no answer.
func TestP1P3(t *testing.T) {
	type answer struct {
		text       string
		c          api.Consent
		e, f, read api.Errno
	}
	ask := func(i int) answer {
		r := rand.New(rand.NewSource(int64(i)))
		c := some(r)
		for k := range c.Vendors {
			if r.Intn(20) == 0 {
				c.Vendors[k] = r.Intn(100) - 30
			}
		}
		if r.Intn(10) == 0 {
			c.Given = int(r.Uint64())
		}
		var a answer
		a.e = Check(c)
		a.text, a.f = Write(c)
		bits := number(1, 6)
		for range r.Intn(200) {
			bits += number(r.Intn(2), 1)
		}
		a.c, a.read = Read(letters(bits))
		if a.e != a.f || a.f != api.OK && a.text != "" || a.read != api.OK && !same(a.c, api.Consent{}) {
			t.Fatalf("%v, %s: %+v", c, bits, a)
		}
		return a
	}
	var first []answer
	for i := range 5000 {
		first = append(first, ask(i))
	}
	for i := len(first) - 1; i >= 0; i-- {
		a, b := first[i], ask(i)
		if a.text != b.text || !same(a.c, b.c) || a.e != b.e || a.f != b.f || a.read != b.read {
			t.Errorf("first %+v, then %+v", a, b)
		}
	}
}

// TestP1Bytes: any bytes at all are answered.
func TestP1Bytes(t *testing.T) {
	r := rand.New(rand.NewSource(3))
	for range 20000 {
		raw := make([]byte, r.Intn(20))
		r.Read(raw)
		bad(t, "!"+string(raw), api.ErrForm)
		if c, e := Read(string(raw)); e != api.OK && !same(c, api.Consent{}) {
			t.Errorf("Read(%q) is %v %d", raw, c, e)
		}
	}
}

// TestP4: lists and texts of millions are answered as short ones are, and soon; so is the text that takes the most.
func TestP4(t *testing.T) {
	begun := time.Now()
	const n = 1 << 24
	wrong(t, of(make([]int, n)...), api.ErrRange)
	wrong(t, of(slices.Repeat([]int{1}, n)...), api.ErrState)
	bad(t, strings.Repeat("B", n), api.ErrMany)
	bad(t, strings.Repeat("=", n), api.ErrForm)
	most := letters(head(63) + runs(slices.Repeat([][]int{{0, 63}}, 63)...))
	for range 200 {
		bad(t, most, api.ErrForm)
	}
	if d := time.Since(begun); d > time.Minute {
		t.Errorf("it took %v", d)
	}
}
