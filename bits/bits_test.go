package bits

import (
	"math"
	"math/big"
	"math/rand"
	"slices"
	"strings"
	"testing"
	"time"

	"gingersnap/api"
)

// badWidths are those that no number may have.
var badWidths = []int{math.MinInt, math.MinInt + 1, -64, -1, 0, 65, 66, 128, 256, 1 << 32, 1<<32 + 1, 1<<62 + 8, math.MaxInt}

// fields: numbers and widths, by turns.
func fields(l ...uint64) []api.Field {
	var out []api.Field
	for i := 0; i+1 < len(l); i += 2 {
		out = append(out, api.Field{N: l[i], Width: int(l[i+1])})
	}
	return out
}

func writes(t *testing.T, l []api.Field, want string, e api.Errno) {
	t.Helper()
	if got, f := Write(l); got != want || f != e {
		t.Errorf("Write(%v) is %x %d, must be %x %d", l, got, f, want, e)
	}
}

// wrong: numbers that are not written.
func wrong(t *testing.T, l []api.Field, e api.Errno) {
	t.Helper()
	writes(t, l, "", e)
}

func reads(t *testing.T, s string, widths []int, want []uint64, left int, e api.Errno) {
	t.Helper()
	got, n, f := Read(s, widths)
	if !slices.Equal(got, want) || n != left || f != e {
		t.Errorf("Read of %d bytes by %v is %v %d %d, must be %v %d %d", len(s), widths, got, n, f, want, left, e)
	}
}

// bad: a text that is not read.
func bad(t *testing.T, s string, widths []int, e api.Errno) {
	t.Helper()
	reads(t, s, widths, nil, 0, e)
}

func TestK1(t *testing.T) {
	writes(t, nil, "", api.OK)
	writes(t, []api.Field{}, "", api.OK)
	writes(t, fields(0, 1), "\x00", api.OK)
	writes(t, fields(1, 1), "\x80", api.OK)
	writes(t, fields(5, 3), "\xa0", api.OK)
	writes(t, fields(1, 8), "\x01", api.OK)
	writes(t, fields(0x123, 9), "\x91\x80", api.OK)
	writes(t, fields(5, 3, 1, 6), "\xa0\x80", api.OK)
	writes(t, fields(0, 3, 1, 5), "\x01", api.OK)
	writes(t, fields(1, 1, 0, 7, 0, 7, 1, 1), "\x80\x01", api.OK)
	writes(t, fields(1, 1, 1, 1, 0, 1, 1, 1), "\xd0", api.OK)
	writes(t, fields(0x4142434445464748, 64), "ABCDEFGH", api.OK)
	writes(t, fields(4, 4, 0x142434445464748, 60), "ABCDEFGH", api.OK)
	writes(t, fields(0, 1, math.MaxUint64, 64), "\x7f\xff\xff\xff\xff\xff\xff\xff\x80", api.OK)
	writes(t, fields(1, 64), "\x00\x00\x00\x00\x00\x00\x00\x01", api.OK)
	writes(t, fields(1<<63, 64), "\x80\x00\x00\x00\x00\x00\x00\x00", api.OK)
}

// TestK1Widths: a number may have just the bits that its width has room for.
func TestK1Widths(t *testing.T) {
	for width := 1; width <= 64; width++ {
		most := uint64(math.MaxUint64) >> (64 - width)
		size := (width + 7) / 8
		full := []byte(strings.Repeat("\xff", size))
		full[size-1] <<= 8*size - width
		writes(t, fields(most, uint64(width)), string(full), api.OK)
		writes(t, fields(0, uint64(width)), strings.Repeat("\x00", size), api.OK)
		last := make([]byte, size)
		last[size-1] = 1 << (8*size - width)
		writes(t, fields(1, uint64(width)), string(last), api.OK)
		for bit := width; bit < 64; bit++ {
			wrong(t, fields(1<<bit, uint64(width)), api.ErrState)
			wrong(t, fields(1<<bit|most, uint64(width)), api.ErrState)
		}
		if width < 64 {
			wrong(t, fields(math.MaxUint64, uint64(width)), api.ErrState)
		}
	}
}

func TestK1Range(t *testing.T) {
	for _, width := range badWidths {
		for _, n := range []uint64{0, 1, math.MaxUint64} {
			f := api.Field{N: n, Width: width}
			wrong(t, []api.Field{f}, api.ErrRange)
			wrong(t, []api.Field{{N: 1, Width: 1}, f}, api.ErrRange)
			wrong(t, []api.Field{f, {N: 1, Width: 1}}, api.ErrRange)
		}
	}
}

// TestK1Order: how many there are, and then the first one that is wrong.
func TestK1Order(t *testing.T) {
	wrong(t, fields(8, 3, 0, 0), api.ErrState)
	wrong(t, fields(0, 0, 8, 3), api.ErrRange)
	wrong(t, fields(0, 65, 8, 3), api.ErrRange)
	wrong(t, fields(1, 1, 2, 1, 0, 65), api.ErrState)
	wrong(t, fields(1, 1, 1, 1, 0, 65, 2, 1), api.ErrRange)
	for _, f := range fields(1, 1, 2, 1, 0, 0, 1, 65) {
		wrong(t, slices.Repeat([]api.Field{f}, api.MaxFields+1), api.ErrMany)
	}
	l := slices.Repeat(fields(1, 1), api.MaxFields)
	writes(t, l, strings.Repeat("\xff", api.MaxFields/8), api.OK)
	for i := range l {
		l[i].N = 2
		wrong(t, l, api.ErrState)
		l[i].N, l[i].Width = 1, 0
		wrong(t, l, api.ErrRange)
		l[i].Width = 1
	}
	wrong(t, append(l, fields(1, 1)...), api.ErrMany)
}

func TestK2(t *testing.T) {
	const s = "\xa5\x0f"
	reads(t, s, nil, nil, 16, api.OK)
	reads(t, s, []int{}, nil, 16, api.OK)
	reads(t, "", nil, nil, 0, api.OK)
	reads(t, s, []int{1}, []uint64{1}, 15, api.OK)
	reads(t, s, []int{8}, []uint64{0xa5}, 8, api.OK)
	reads(t, s, []int{3, 5, 8}, []uint64{5, 5, 15}, 0, api.OK)
	reads(t, s, []int{4, 8}, []uint64{10, 0x50}, 4, api.OK)
	reads(t, s, []int{16}, []uint64{0xa50f}, 0, api.OK)
	reads(t, s, []int{15}, []uint64{0x5287}, 1, api.OK)
	reads(t, s, []int{1, 15}, []uint64{1, 0x250f}, 0, api.OK)
	reads(t, "ABCDEFGHI", []int{64}, []uint64{0x4142434445464748}, 8, api.OK)
	reads(t, "ABCDEFGHI", []int{4, 64}, []uint64{4, 0x1424344454647484}, 4, api.OK)
	reads(t, strings.Repeat("\xff", 8), []int{64}, []uint64{math.MaxUint64}, 0, api.OK)
	reads(t, "\x80\x00\x00\x00\x00\x00\x00\x00", []int{64}, []uint64{1 << 63}, 0, api.OK)
}

func TestK2Range(t *testing.T) {
	for _, width := range badWidths {
		for _, s := range []string{"", "\xff", strings.Repeat("\xff", 600)} {
			bad(t, s, []int{width}, api.ErrRange)
			bad(t, s, []int{width, 1}, api.ErrRange)
			bad(t, s, []int{width, 64}, api.ErrRange)
		}
		bad(t, "\xff", []int{1, width}, api.ErrRange)
		bad(t, "\xff", []int{8, width}, api.ErrRange)
		bad(t, "\xff", []int{9, width}, api.ErrNone)
	}
}

// TestK2None: of a text no more bits are read than it has.
func TestK2None(t *testing.T) {
	for size := range 10 {
		s := strings.Repeat("\xff", size)
		for width := 1; width <= 64; width++ {
			n := 8 * size / width // that many of them it has
			widths := slices.Repeat([]int{width}, n)
			want := slices.Repeat([]uint64{math.MaxUint64 >> (64 - width)}, n)
			reads(t, s, widths, want, 8*size-n*width, api.OK)
			bad(t, s, append(widths, width), api.ErrNone)
		}
	}
}

// TestK2Order: how many there are, and then the first one that is wrong.
func TestK2Order(t *testing.T) {
	bad(t, "\xa5\x0f", []int{20, 0}, api.ErrNone)
	bad(t, "\xa5\x0f", []int{0, 20}, api.ErrRange)
	bad(t, "\xa5\x0f", []int{10, 7, 65}, api.ErrNone)
	bad(t, "\xa5\x0f", []int{10, 6, 65, 1}, api.ErrRange)
	for _, width := range []int{1, 0, 65, 64} {
		for _, s := range []string{"", strings.Repeat("\x00", 8*api.MaxFields+8)} {
			bad(t, s, slices.Repeat([]int{width}, api.MaxFields+1), api.ErrMany)
		}
	}
	most := slices.Repeat([]int{64}, api.MaxFields)
	reads(t, strings.Repeat("\x00", 8*api.MaxFields+1), most, make([]uint64, api.MaxFields), 8, api.OK)
	bad(t, strings.Repeat("\x00", 8*api.MaxFields-1), most, api.ErrNone)
	bad(t, "", most, api.ErrNone)
	bad(t, "", slices.Repeat([]int{0}, api.MaxFields), api.ErrRange)
}

// scraps: numbers that have room in their widths.
func scraps(r *rand.Rand, most int) []api.Field {
	var out []api.Field
	for range r.Intn(most + 1) {
		width := 1 + r.Intn(64)
		if r.Intn(2) == 0 {
			width = 1 + r.Intn(8)
		}
		out = append(out, api.Field{N: r.Uint64() >> (64 - width), Width: width})
	}
	return out
}

// model: the bits as one great number.
func model(l []api.Field) (string, int) {
	all, size := new(big.Int), 0
	for _, f := range l {
		all.Or(all.Lsh(all, uint(f.Width)), new(big.Int).SetUint64(f.N))
		size += f.Width
	}
	bytes := make([]byte, (size+7)/8)
	return string(all.Lsh(all, uint(8*len(bytes)-size)).FillBytes(bytes)), size
}

func numbers(l []api.Field) []uint64 {
	var out []uint64
	for _, f := range l {
		out = append(out, f.N)
	}
	return out
}

func widths(l []api.Field) []int {
	var out []int
	for _, f := range l {
		out = append(out, f.Width)
	}
	return out
}

// TestK3: what is written is read as it was, and less than a byte is left behind it, of noughts; whatever there is behind, it is read as before.
func TestK3(t *testing.T) {
	r := rand.New(rand.NewSource(1))
	for i := range 4000 {
		most := 20
		if i%40 == 0 {
			most = api.MaxFields
		}
		l := scraps(r, most)
		s, size := model(l)
		left := 8*len(s) - size
		writes(t, l, s, api.OK)
		reads(t, s, widths(l), numbers(l), left, api.OK)
		reads(t, s+"\xff", widths(l), numbers(l), left+8, api.OK)
		if left > 0 && len(l) < api.MaxFields {
			reads(t, s, append(widths(l), left), append(numbers(l), 0), 0, api.OK)
		}
		if s != "" {
			bad(t, s[:len(s)-1], widths(l), api.ErrNone)
		}
	}
}

// TestK3Texts: what is read, by widths that leave nothing, is written as it was.
func TestK3Texts(t *testing.T) {
	r := rand.New(rand.NewSource(2))
	for range 2000 {
		l := scraps(r, 20)
		s, size := model(l)
		w := widths(l)
		if left := 8*len(s) - size; left > 0 {
			w = append(w, left)
		}
		some := make([]byte, len(s))
		r.Read(some)
		got, left, e := Read(string(some), w)
		if left != 0 || e != api.OK || len(got) != len(w) {
			t.Fatalf("Read(%x, %v) is %v %d %d", some, w, got, left, e)
		}
		var again []api.Field
		for i, n := range got {
			again = append(again, api.Field{N: n, Width: w[i]})
		}
		writes(t, again, string(some), api.OK)
	}
}

// TestP2: what is handed in is only read, the spare room behind it too, and no two answers share memory.
func TestP2(t *testing.T) {
	whole := fields(5, 3, 1, 6, 2, 1, 0, 0)
	was := slices.Clone(whole)
	if s, e := Write(whole[:2]); s != "\xa0\x80" || e != api.OK || !slices.Equal(whole, was) {
		t.Error("Write changed what it was handed, or read behind it")
	}
	by := []int{3, 5, 0, 65}
	first, _, _ := Read("\xa5", by[:2])
	second, _, _ := Read("\xa5", by[:2])
	first = first[:cap(first)]
	for i := range first {
		first[i] = 99
	}
	if !slices.Equal(by, []int{3, 5, 0, 65}) || !slices.Equal(second, []uint64{5, 5}) {
		t.Error("an answer shares memory")
	}
}

// TestP1P3: no call panics; with an error there is nothing else; and what was asked between changes no answer.
func TestP1P3(t *testing.T) {
	type answer struct {
		text  string
		n     []uint64
		left  int
		e1, e api.Errno
	}
	ask := func(i int) answer {
		r := rand.New(rand.NewSource(int64(i)))
		l := scraps(r, 10)
		for k := range l {
			if r.Intn(20) == 0 {
				l[k].Width = r.Intn(80) - 5
			}
		}
		var a answer
		a.text, a.e1 = Write(l)
		s, _ := model(scraps(r, 10))
		a.n, a.left, a.e = Read(s, widths(l))
		if a.e1 != api.OK && a.text != "" || a.e != api.OK && (len(a.n) > 0 || a.left != 0) {
			t.Fatalf("%v, %x: %+v", l, s, a)
		}
		return a
	}
	var first []answer
	for i := range 5000 {
		first = append(first, ask(i))
	}
	for i := len(first) - 1; i >= 0; i-- {
		a, b := first[i], ask(i)
		if a.text != b.text || !slices.Equal(a.n, b.n) || a.left != b.left || a.e1 != b.e1 || a.e != b.e {
			t.Errorf("first %+v, then %+v", a, b)
		}
	}
}

// TestP4: texts and lists of millions are answered as short ones are, and soon.
func TestP4(t *testing.T) {
	const n = 1 << 28 // so many bytes have more bits than 31 tell
	begun := time.Now()
	s := strings.Repeat("\x01", n)
	reads(t, s, nil, nil, 8*n, api.OK)
	for range 1000 {
		reads(t, s, []int{8, 64}, []uint64{1, 0x0101010101010101}, 8*n-72, api.OK)
	}
	bad(t, s, make([]int, 1<<24), api.ErrMany)
	wrong(t, make([]api.Field, 1<<24), api.ErrMany)
	if d := time.Since(begun); d > time.Minute {
		t.Errorf("it took %v", d)
	}
}
