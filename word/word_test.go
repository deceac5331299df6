package word

import (
	"math/rand"
	"slices"
	"strings"
	"testing"
	"time"
)

// texts: ordinary ones, edges, and ones that are no UTF-8, then many short ones of bytes that the calls tell apart.
func texts() []string {
	out := []string{"", " ", "\t", " \t ", "a", "A", "\t a b \t", "Set-COOKIE", "__Host-id", ";", ";;", "a;b", ";a;", "@Z[`z{", "\x00", "\x7f", "\x80", "\xff\xfe", "\xc3\x9c A", "\u212a", "\u0130", "\u00a0a\u00a0", "\n a \r", "\v\fa"}
	for b := range 256 {
		out = append(out, string([]byte{byte(b)}), string([]byte{'a', byte(b), 'Z'}))
	}
	const few = " \t;aAzZ=\x00\xc3\xff"
	r := rand.New(rand.NewSource(1))
	for range 2000 {
		s := make([]byte, r.Intn(12))
		for i := range s {
			s[i] = few[r.Intn(len(few))]
		}
		out = append(out, string(s))
	}
	return out
}

var parters = []byte{';', ' ', '\t', 'a', 'Z', 0, 0xc3, 0xff}

func TestA1Fold(t *testing.T) {
	for s, want := range map[string]string{
		"":              "",
		"Set-COOKIE":    "set-cookie",
		"@AZ[`az{":      "@az[`az{",
		"\xc3\x9c \xc4": "\xc3\x9c \xc4",
		"\u212aK":       "\u212ak",
		"0-9_\x00\xff":  "0-9_\x00\xff",
	} {
		if got := Fold(s); got != want {
			t.Errorf("Fold(%q) is %q, must be %q", s, got, want)
		}
	}
	for b := range 256 {
		want := byte(b)
		if b >= 65 && b <= 90 {
			want += 32
		}
		if got := Fold(string([]byte{byte(b)})); got != string([]byte{want}) {
			t.Errorf("Fold of byte %d is %q", b, got)
		}
	}
}

func TestA1Trim(t *testing.T) {
	for s, want := range map[string]string{
		"":               "",
		" \t \t":         "",
		"a":              "a",
		"\t a \t b \t ":  "a \t b",
		"\na\r":          "\na\r",
		" \x00 ":         "\x00",
		"\u00a0a\u00a0 ": "\u00a0a\u00a0",
		" \xff\t":        "\xff",
	} {
		if got := Trim(s); got != want {
			t.Errorf("Trim(%q) is %q, must be %q", s, got, want)
		}
	}
	for b := range 256 {
		s := string([]byte{byte(b), 'x', byte(b)})
		want := s
		if b == 32 || b == 9 {
			want = "x"
		}
		if got := Trim(s); got != want {
			t.Errorf("Trim(%q) is %q", s, got)
		}
	}
}

func TestA1Token(t *testing.T) {
	const bad = `()<>@,;:\"/[]?={}`
	for b := range 256 {
		want := b >= 33 && b <= 126 && !strings.Contains(bad, string(rune(b)))
		for _, s := range [][]byte{{byte(b)}, {byte(b), 'a'}, {'a', byte(b)}, {'a', byte(b), 'b'}} {
			if got := Token(string(s)); got != want {
				t.Errorf("Token(%q) is %v", s, got)
			}
		}
	}
	if Token("") {
		t.Error("a text without a byte is a token")
	}
	if !Token("!#$%&'*+-.^_`|~09azAZ") {
		t.Error("a token is none")
	}
}

func TestA2Cut(t *testing.T) {
	for _, c := range []struct {
		s           string
		b           byte
		head, after string
		ok          bool
	}{
		{"", ';', "", "", false},
		{"abc", ';', "abc", "", false},
		{"a;b", ';', "a", "b", true},
		{"a;b;c", ';', "a", "b;c", true},
		{";a", ';', "", "a", true},
		{"a;", ';', "a", "", true},
		{";", ';', "", "", true},
		{"\xc3\x9c", 0x9c, "\xc3", "", true},
		{"\u00dc", 0xdc, "\u00dc", "", false},
		{"a\x00b", 0, "a", "b", true},
	} {
		head, after, ok := Cut(c.s, c.b)
		if head != c.head || after != c.after || ok != c.ok {
			t.Errorf("Cut(%q, %d) is %q %q %v", c.s, c.b, head, after, ok)
		}
	}
}

func TestA2Parts(t *testing.T) {
	for _, c := range []struct {
		s    string
		b    byte
		want []string
	}{
		{"", ';', []string{""}},
		{"a", ';', []string{"a"}},
		{";", ';', []string{"", ""}},
		{"a;b", ';', []string{"a", "b"}},
		{";a;;b;", ';', []string{"", "a", "", "b", ""}},
		{"\u00dc", 0x9c, []string{"\xc3", ""}},
		{"\u00dc", 0xdc, []string{"\u00dc"}},
	} {
		if got := Parts(c.s, c.b); !slices.Equal(got, c.want) {
			t.Errorf("Parts(%q, %d) is %q", c.s, c.b, got)
		}
	}
	for _, s := range texts() {
		for _, b := range parters {
			got := Parts(s, b)
			if want := strings.Split(s, string([]byte{b})); !slices.Equal(got, want) {
				t.Errorf("Parts(%q, %d) is %q, must be %q", s, b, got, want)
			}
			head, after, ok := Cut(s, b)
			if head != got[0] || ok != (len(got) > 1) || after != Join(got[1:], b) {
				t.Errorf("Cut(%q, %d) is %q %q %v, but its parts are %q", s, b, head, after, ok, got)
			}
		}
	}
}

func TestA2Join(t *testing.T) {
	for _, c := range []struct {
		l    []string
		b    byte
		want string
	}{
		{nil, ';', ""},
		{[]string{}, ';', ""},
		{[]string{""}, ';', ""},
		{[]string{"", ""}, ';', ";"},
		{[]string{"a"}, ';', "a"},
		{[]string{"a", "", "b;c"}, ';', "a;;b;c"},
		{[]string{"a", "b"}, 0xff, "a\xffb"},
		{[]string{"a", "b"}, 0, "a\x00b"},
	} {
		if got := Join(c.l, c.b); got != c.want {
			t.Errorf("Join(%q, %d) is %q", c.l, c.b, got)
		}
	}
}

func TestA3(t *testing.T) {
	for _, s := range texts() {
		for _, b := range parters {
			if got := Join(Parts(s, b), b); got != s {
				t.Errorf("%q, parted and joined by %d, is %q", s, b, got)
			}
		}
		f, u := Fold(s), Trim(s)
		if Fold(f) != f || Trim(u) != u || Fold(u) != Trim(f) {
			t.Errorf("Fold and Trim of %q: %q and %q", s, f, u)
		}
	}
}

// between stops as soon as nobody wants more, and can be gone through again.
func TestBetweenStops(t *testing.T) {
	seq := between("a;b;c", ';')
	for range 2 {
		var got []string
		for part := range seq {
			got = append(got, part)
			if len(got) == 2 {
				break
			}
		}
		if !slices.Equal(got, []string{"a", "b"}) {
			t.Errorf("the first two are %q", got)
		}
	}
}

func TestP2(t *testing.T) {
	whole := []string{"a", "b", "spare", "room"}
	if got := Join(whole[:2], ';'); got != "a;b" {
		t.Errorf("Join is %q", got)
	}
	if !slices.Equal(whole, []string{"a", "b", "spare", "room"}) {
		t.Errorf("Join changed what it was handed: %q", whole)
	}
	first := Parts("a;b;c", ';')
	second := Parts("a;b;c", ';')
	for i := range first[:cap(first)] {
		first[:cap(first)][i] = "changed"
	}
	if want := []string{"a", "b", "c"}; !slices.Equal(second, want) || !slices.Equal(Parts("a;b;c", ';'), want) {
		t.Error("two answers of Parts share memory")
	}
}

// answers of all calls of this package for one text.
func answers(s string, b byte) []string {
	head, after, ok := Cut(s, b)
	out := append(Parts(s, b), Fold(s), Trim(s), head, after)
	if Token(s) {
		out = append(out, "token")
	}
	if ok {
		out = append(out, "cut")
	}
	return append(out, Join(out, b))
}

// TestP1P3: no call panics, and what was asked between changes no answer.
func TestP1P3(t *testing.T) {
	var first [][]string
	for i, s := range texts() {
		first = append(first, answers(s, parters[i%len(parters)]))
	}
	for i, s := range texts() {
		if again := answers(s, parters[i%len(parters)]); !slices.Equal(first[i], again) {
			t.Errorf("%q: first %q, then %q", s, first[i], again)
		}
	}
}

// TestP4: texts of millions of bytes and parts are answered, and without going through them again for each part.
func TestP4(t *testing.T) {
	const n = 1 << 22
	begun := time.Now()
	s := strings.Repeat("; ", n)
	parts := Parts(s, ';')
	if len(parts) != n+1 || parts[0] != "" || parts[n] != " " {
		t.Errorf("%d parts", len(parts))
	}
	if Join(parts, ';') != s {
		t.Error("not joined as it was")
	}
	if Trim(strings.Repeat(" \t", n)) != "" || Fold(strings.Repeat("A", n)) != strings.Repeat("a", n) || !Token(strings.Repeat("A", n)) {
		t.Error("a long text is answered otherwise than a short one")
	}
	if d := time.Since(begun); d > time.Minute {
		t.Errorf("it took %v", d)
	}
}
