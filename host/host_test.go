package host

import (
	"fmt"
	"math/rand"
	"net/netip"
	"regexp"
	"slices"
	"strings"
	"testing"
	"time"

	"gingersnap/api"
)

// hosts: ordinary ones, edges, and texts that are none, then many short ones of bytes that the calls tell apart.
func hosts() []string {
	long := strings.Repeat("l", 63)
	out := []string{"", ".", "..", "a", "A.B", "a.b.c", "a..b", ".a", "a.", "-", "-a", "a-", "a-b", "a--b", "a.-b", "a-.b", "a_b", "a b", " a", "a ", "\xe4.com", "\u00e4.com", "a:80", "a/b", "[::1]", "www.shop.com", "shop.com", "com", "xn--a.com", long, long + "l", long + "." + long, long + "." + long + "l"}
	out = append(out, "1.2.3.4", "x.1.2.3.4", "0.0.0.0", "255.255.255.255", "1.2.3.256", "1.2.3.04", "1.2.3", "1.2.3.4.5", "1.2.3.", ".1.2.3", "1..2.3", "3.4", "4", "1.2.3.4.", "1.2.3.4.com")
	for b := range 256 {
		out = append(out, string([]byte{byte(b)}), string([]byte{'a', byte(b), 'Z'}))
	}
	const few = "..ab12-A"
	r := rand.New(rand.NewSource(1))
	for range 1500 {
		s := make([]byte, r.Intn(9))
		for i := range s {
			s[i] = few[r.Intn(len(few))]
		}
		out = append(out, string(s))
	}
	return out
}

func canon(t *testing.T, s, want string, e api.Errno) {
	t.Helper()
	if got, f := Canon(s); got != want || f != e {
		t.Errorf("Canon(%q) is %q %d, must be %q %d", s, got, f, want, e)
	}
}

func TestD1Canon(t *testing.T) {
	for _, s := range []string{"a", "a.b", "WWW.Shop.COM", "a-b.c--d", "1.2.3.4", "0", "xn--a.Com", "A1-Z9.az", strings.Repeat("L", 63) + ".x"} {
		canon(t, s, strings.ToLower(s), api.OK)
	}
	for _, s := range []string{"", ".", "..", "a..b", ".a", "a.", "-", "-a", "a-", "a.-b", "a-.b", "-.a", "a_b", "a b", " a", "a ", "a\t", "\xe4.com", "\u00e4.com", "\u212a.com", "a:80", "a/b", "a\x00", "*.a", "[::1]", strings.Repeat("l", 64), "x." + strings.Repeat("l", 64) + ".x"} {
		canon(t, s, "", api.ErrForm)
	}
}

// TestD1Bytes: which bytes a label may have, at its ends and within.
func TestD1Bytes(t *testing.T) {
	for b := range 256 {
		c := byte(b)
		alnum := c >= '0' && c <= '9' || c >= 'a' && c <= 'z' || c >= 'A' && c <= 'Z'
		for _, s := range []string{string([]byte{c}), string([]byte{c, 'x'}), string([]byte{'x', c}), string([]byte{'x', '.', c}), string([]byte{c, '.', 'x'})} {
			if alnum {
				canon(t, s, strings.ToLower(s), api.OK)
			} else {
				canon(t, s, "", api.ErrForm)
			}
		}
		s := string([]byte{'x', c, 'Y'})
		if alnum || c == '-' || c == '.' {
			canon(t, s, strings.ToLower(s), api.OK)
		} else {
			canon(t, s, "", api.ErrForm)
		}
	}
}

func TestD1Lengths(t *testing.T) {
	for n := range 70 {
		s := strings.Repeat("l", n)
		for _, h := range []string{s, s + ".x", "x." + s, "x." + s + ".x"} {
			if n >= 1 && n <= 63 {
				canon(t, h, h, api.OK)
			} else {
				canon(t, h, "", api.ErrForm)
			}
		}
	}
	good := strings.Repeat("A.", 126) + "A"
	canon(t, good, strings.ToLower(good), api.OK)
	canon(t, good+"b", "", api.ErrMany)
	canon(t, good+".b", "", api.ErrMany)
	canon(t, strings.Repeat("l", api.MaxHost), "", api.ErrForm)
	canon(t, strings.Repeat("l", api.MaxHost+1), "", api.ErrMany)
	canon(t, strings.Repeat(".", api.MaxHost), "", api.ErrForm)
	canon(t, strings.Repeat(".", api.MaxHost+1), "", api.ErrMany)
	canon(t, strings.Repeat("\u00e4", api.MaxHost/2+1), "", api.ErrMany)
}

var aHost = regexp.MustCompile(`^[0-9A-Za-z]([-0-9A-Za-z]{0,61}[0-9A-Za-z])?(\.[0-9A-Za-z]([-0-9A-Za-z]{0,61}[0-9A-Za-z])?)*$`)

// TestD1Scraps: what Canon answers is what a pattern tells; done twice it is done once.
func TestD1Scraps(t *testing.T) {
	for _, s := range hosts() {
		switch {
		case len(s) > api.MaxHost:
			canon(t, s, "", api.ErrMany)
		case !aHost.MatchString(s):
			canon(t, s, "", api.ErrForm)
		default:
			canon(t, s, strings.ToLower(s), api.OK)
			canon(t, strings.ToLower(s), strings.ToLower(s), api.OK)
		}
	}
}

func TestD1Address(t *testing.T) {
	for _, s := range []string{"0.0.0.0", "10.0.0.1", "1.2.3.4", "255.255.255.255", "199.99.9.249"} {
		if !Address(s) {
			t.Errorf("%q is no address", s)
		}
	}
	for _, s := range []string{"", ".", "...", "1", "1.2.3", "1.2.3.4.5", "1.2.3.4.", ".1.2.3.4", "1.2.3.", ".2.3.4", "1..3.4", "256.2.3.4", "1.256.3.4", "1.2.256.4", "1.2.3.256", "1.2.3.999", "1.2.3.1000", "1.2.3.00", "1.2.3.01", "01.2.3.4", "1.2.3.000", "1.2.3.a", "1.2.3.0x1", "+1.2.3.4", "1.2.3.-4", "1.2.3. 4", " 1.2.3.4", "1.2.3.4 ", "1.2.3.4\n", "x.1.2.3", "1.2.3.\xff", "1.2.3.\u0664", "1.2.3.18446744073709551620", "1.2.3." + strings.Repeat("0", 1000)} {
		if Address(s) {
			t.Errorf("%q is an address", s)
		}
	}
	for n := range 1100 {
		for _, form := range []string{"%d", "%02d", "%03d", "%04d"} {
			label := fmt.Sprintf(form, n)
			want := n <= 255 && label == fmt.Sprint(n)
			for _, s := range []string{label + ".2.3.4", "1." + label + ".3.4", "1.2.3." + label} {
				if got := Address(s); got != want {
					t.Errorf("Address(%q) is %v", s, got)
				}
			}
		}
	}
	for _, s := range hosts() {
		a, err := netip.ParseAddr(s)
		if got := Address(s); got != (err == nil && a.Is4()) {
			t.Errorf("Address(%q) is %v", s, got)
		}
	}
}

func TestD2Match(t *testing.T) {
	for _, c := range []struct {
		h, domain string
		want      bool
	}{
		{"shop.com", "shop.com", true},
		{"www.shop.com", "shop.com", true},
		{"a.www.shop.com", "shop.com", true},
		{"shop.com", "com", true},
		{"shop.com", "www.shop.com", false},
		{"xshop.com", "shop.com", false},
		{"shop.com", "hop.com", false},
		{"shop.com", ".com", false},
		{"shop.com.x", "shop.com", false},
		{"shop.com", "shop.co", false},
		{"com", "shop.com", false},
		{"www.Shop.com", "shop.com", false}, // as they are, not folded
		{"www.shop.com", "SHOP.com", false},
		{"1.2.3.4", "1.2.3.4", true},
		{"1.2.3.4", "2.3.4", false},
		{"1.2.3.4", "4", false},
		{"1.2.3.4", "", false},
		{"1.2.3.256", "3.256", true},
		{"01.2.3.4", "3.4", true},
		{"2.3.4", "3.4", true},
		{"x.1.2.3.4", "3.4", true},
		{"x.1.2.3.4", "1.2.3.4", true},
		{"", "", true},
		{"", "a", false},
		{"a", "", false},
		{"a.", "", true},
		{".", "", true},
		{".", ".", true},
		{"..", ".", true},
		{".a", "a", true},
		{"a..b", ".b", true},
		{"a.\xff", "\xff", true},
		{"a\xff", "\xff", false},
	} {
		if got := Match(c.h, c.domain); got != c.want {
			t.Errorf("Match(%q, %q) is %v", c.h, c.domain, got)
		}
	}
}

func TestD2Ups(t *testing.T) {
	for h, want := range map[string][]string{
		"":             nil,
		"com":          {"com"},
		"www.shop.com": {"www.shop.com", "shop.com", "com"},
		"A.b":          {"A.b", "b"},
		".":            {".", ""},
		"..":           {"..", ".", ""},
		"a.":           {"a.", ""},
		".a":           {".a", "a"},
		"a..b":         {"a..b", ".b", "b"},
		"1.2.3.4":      {"1.2.3.4"},
		"1.2.3.256":    {"1.2.3.256", "2.3.256", "3.256", "256"},
		"2.3.4":        {"2.3.4", "3.4", "4"},
		"x.1.2.3.4":    {"x.1.2.3.4", "1.2.3.4", "2.3.4", "3.4", "4"},
		"\xff.\xe4":    {"\xff.\xe4", "\xe4"},
	} {
		if got := Ups(h); !slices.Equal(got, want) {
			t.Errorf("Ups(%q) is %q, must be %q", h, got, want)
		}
	}
}

// TestD2MatchUps: a host matches its ups, and nothing else.
func TestD2MatchUps(t *testing.T) {
	all := hosts()
	for i, h := range all {
		ups := Ups(h)
		if want := strings.Count(h, ".") + 1; h != "" && !Address(h) && len(ups) != want {
			t.Errorf("Ups(%q) has %d texts", h, len(ups))
		}
		for _, d := range ups {
			if !Match(h, d) {
				t.Errorf("%q does not match %q", h, d)
			}
		}
		for k := range 100 {
			d := all[(i*7+k)%len(all)]
			if got, want := Match(h, d), slices.Contains(ups, d) || h == d; got != want {
				t.Errorf("Match(%q, %q) is %v", h, d, got)
			}
		}
	}
}

// TestD3: of two domains that a host matches the longer one matches the other. By D2 an address matches itself alone: one that stands behind labels is left out.
func TestD3(t *testing.T) {
	for _, h := range hosts() {
		ups := Ups(h)
		for i, d := range ups {
			for _, other := range ups[i:] {
				if !Match(d, other) && !Address(d) {
					t.Errorf("%q matches %q and %q, which don't match", h, d, other)
				}
				if d != other && Match(other, d) {
					t.Errorf("%q matches the longer %q", other, d)
				}
			}
		}
	}
}

func TestP2(t *testing.T) {
	for _, h := range []string{"a.b.c", "1.2.3.4"} {
		first, second := Ups(h), Ups(h)
		want := slices.Clone(first)
		for i := range first[:cap(first)] {
			first[:cap(first)][i] = "changed"
		}
		if !slices.Equal(second, want) || !slices.Equal(Ups(h), want) {
			t.Errorf("two answers of Ups(%q) share memory", h)
		}
	}
}

// answers of all calls of this package for one text, and another.
func answers(s, other string) []string {
	h, e := Canon(s)
	out := append(Ups(s), h, string(rune('0'+e)))
	if Address(s) {
		out = append(out, "address")
	}
	if Match(s, other) {
		out = append(out, "match")
	}
	return out
}

// TestP1P3: no call panics; with an error there is no host; and what was asked between changes no answer.
func TestP1P3(t *testing.T) {
	all := hosts()
	var first [][]string
	for i, s := range all {
		if h, e := Canon(s); (e == api.OK) != (h != "") {
			t.Errorf("Canon(%q) is %q %d", s, h, e)
		}
		first = append(first, answers(s, all[i/2]))
	}
	for i, s := range all {
		if again := answers(s, all[i/2]); !slices.Equal(again, first[i]) {
			t.Errorf("%q: first %q, then %q", s, first[i], again)
		}
	}
}

// TestP4: texts of millions of bytes are answered, and without going through them again for each label.
func TestP4(t *testing.T) {
	const n = 1 << 22
	begun := time.Now()
	s := strings.Repeat("a.", n) + "a"
	if ups := Ups(s); len(ups) != n+1 || ups[0] != s || ups[n] != "a" {
		t.Errorf("%d ups", len(ups))
	}
	if !Match(s, s[2:]) || Match(s, s[1:]) || Address(s) || Address("1.2.3."+strings.Repeat("1", n)) {
		t.Error("a long text is answered otherwise than a short one")
	}
	canon(t, s, "", api.ErrMany)
	if d := time.Since(begun); d > time.Minute {
		t.Errorf("it took %v", d)
	}
}
