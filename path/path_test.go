package path

import (
	"math/rand"
	"strings"
	"testing"
	"time"
)

// paths: ordinary ones, edges, and texts that are none, then all short ones of bytes that the calls tell apart, and some longer ones.
func paths() []string {
	out := []string{"", "/", "//", "///", "/cart", "/cart/", "/cart/add", "/cartx", "cart", "cart/", "cart/add", "/a?b/c", "/a#b/c", "\\a\\b", "/\x00/\xff", "/\u2215/\u2044a", " /a", "/a /b"}
	short := []string{""}
	for range 5 {
		var longer []string
		for _, s := range short {
			longer = append(longer, s+"/", s+"a", s+"b")
		}
		out, short = append(out, longer...), longer
	}
	r := rand.New(rand.NewSource(7))
	for range 300 {
		s := make([]byte, r.Intn(20))
		for i := range s {
			s[i] = "//ab.\xff"[r.Intn(6)]
		}
		out = append(out, string(s))
	}
	return out
}

func TestF1(t *testing.T) {
	for p, want := range map[string]string{
		"":              "/",
		"/":             "/",
		"//":            "/",
		"///":           "//",
		"/a":            "/",
		"/a/":           "/a",
		"/cart/add":     "/cart",
		"/cart/add/":    "/cart/add",
		"/a/b/c":        "/a/b",
		"/a//b":         "/a/",
		"//a":           "/",
		"/a?b/c":        "/a?b",
		"/a?b":          "/",
		"a":             "/",
		"a/":            "/",
		"a/b":           "/",
		"a/b/c":         "/",
		"a//":           "/",
		" /a/b":         "/",
		"\\a\\b":        "/",
		"\xff/a/b":      "/",
		"/\xff/\x00":    "/\xff",
		"/\u2215/b":     "/\u2215",
		"/a\u2215b":     "/",
		"/A/../b/./c":   "/A/../b/.",
		"/%2f/b":        "/%2f",
		"/ a / b / c ":  "/ a / b ",
		"/a\n/b\n/\n":   "/a\n/b\n",
		"/\x2f\x2f\x2f": "///",
	} {
		if got := Default(p); got != want {
			t.Errorf("Default(%q) is %q, must be %q", p, got, want)
		}
	}
}

// TestF1Scraps: as its parts tell it; and a path matches its default, if it begins by a byte 47.
func TestF1Scraps(t *testing.T) {
	for _, p := range paths() {
		want := "/"
		if parts := strings.Split(p, "/"); parts[0] == "" && len(parts) > 2 {
			want = strings.Join(parts[:len(parts)-1], "/")
		}
		got := Default(p)
		if got != want {
			t.Errorf("Default(%q) is %q, must be %q", p, got, want)
		}
		if Match(p, got) != strings.HasPrefix(p, "/") {
			t.Errorf("Match(%q, %q) is %v", p, got, Match(p, got))
		}
	}
}

func TestF2(t *testing.T) {
	for _, c := range []struct {
		p, of string
		want  bool
	}{
		{"/", "/", true},
		{"/a", "/", true},
		{"/a", "/a", true},
		{"/a/", "/a", true},
		{"/a/b", "/a", true},
		{"/a/b", "/a/", true},
		{"/a", "/a/", false},
		{"/ab", "/a", false},
		{"/a", "/ab", false},
		{"/", "/a", false},
		{"/cart/x", "/cart", true},
		{"/cartx", "/cart", false},
		{"/cart/x", "/CART", false},
		{"/x/cart", "/cart", false},
		{"//", "/", true},
		{"//a", "/", true},
		{"/a//b", "/a/", true},
		{"/a//b", "/a", true},
		{"/a/b", "/a//", false},
		{"/a?b", "/a", false},
		{"/a\\b", "/a", false},
		{"", "", true},
		{"/", "", true},
		{"/a", "", true},
		{"//", "", true},
		{"a", "", false},
		{"a/", "", false},
		{" /", "", false},
		{"", "/", false},
		{"", "a", false},
		{"x", "x", true},
		{"x/y", "x", true},
		{"x/y", "x/", true},
		{"xy", "x", false},
		{"x", "/", false},
		{"\xff/a", "\xff", true},
		{"\xff\xfe", "\xff", false},
		{"\u00e4", "\xc3", false},
	} {
		if got := Match(c.p, c.of); got != c.want {
			t.Errorf("Match(%q, %q) is %v", c.p, c.of, got)
		}
	}
}

// matched: what a path matches: itself, and each beginning of it, shorter than it, that ends by a byte 47, or has one behind it.
func matched(p string) []string {
	out := []string{p}
	for i := range len(p) {
		if i > 0 && p[i-1] == '/' || p[i] == '/' {
			out = append(out, p[:i])
		}
	}
	return out
}

func TestF2Scraps(t *testing.T) {
	all := paths()
	for _, p := range all {
		is := map[string]bool{}
		for _, of := range matched(p) {
			is[of] = true
			if !Match(p, of) {
				t.Errorf("%q does not match %q", p, of)
			}
		}
		for _, of := range all {
			if got := Match(p, of); got != is[of] {
				t.Errorf("Match(%q, %q) is %v", p, of, got)
			}
		}
	}
}

func TestF3(t *testing.T) {
	all := paths()
	for _, p := range all {
		var of []string
		for _, o := range append(matched(p), all...) {
			if Match(p, o) {
				of = append(of, o)
			}
		}
		for _, a := range of {
			for _, b := range of {
				if !Match(a, b) && !Match(b, a) {
					t.Errorf("%q matches %q and %q, of which none matches the other", p, a, b)
				}
			}
		}
	}
}

// TestP1P3: no call panics, and what was asked between changes no answer.
func TestP1P3(t *testing.T) {
	type answer struct {
		path  string
		match bool
	}
	all := paths()
	var first []answer
	for i, p := range all {
		first = append(first, answer{Default(p), Match(p, all[i/2])})
	}
	for i, p := range all {
		if again := (answer{Default(p), Match(p, all[i/2])}); again != first[i] {
			t.Errorf("%q: first %v, then %v", p, first[i], again)
		}
	}
}

// TestP4: texts of millions of bytes are answered as short ones are, and soon.
func TestP4(t *testing.T) {
	const n = 1 << 22
	begun := time.Now()
	s := strings.Repeat("/a", n)
	for range 20 {
		if Default(s) != s[:len(s)-2] || Default(s[1:]) != "/" || !Match(s, s[:len(s)-2]) || !Match(s, s[:len(s)-1]) || Match(s+"a", s) || Match(s, s+"/") {
			t.Fatal("a long text is answered otherwise than a short one")
		}
	}
	if d := time.Since(begun); d > time.Minute {
		t.Errorf("it took %v", d)
	}
}
