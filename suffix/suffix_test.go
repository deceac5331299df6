package suffix

import (
	"math"
	"math/rand"
	"slices"
	"strings"
	"testing"
	"time"

	"gingersnap/api"
	"gingersnap/host"
)

// list of rules: each one a sign of its kind (none for a Plain, * for a Wild, ! for an Except), and its name.
func list(names ...string) []api.Suffix {
	var out []api.Suffix
	for _, n := range names {
		s := api.Suffix{Kind: api.Plain, Name: n}
		switch {
		case strings.HasPrefix(n, "*"):
			s = api.Suffix{Kind: api.Wild, Name: n[1:]}
		case strings.HasPrefix(n, "!"):
			s = api.Suffix{Kind: api.Except, Name: n[1:]}
		}
		out = append(out, s)
	}
	return out
}

func check(t *testing.T, l []api.Suffix, want api.Errno) {
	t.Helper()
	if got := Check(l); got != want {
		t.Errorf("Check(%v) is %d, must be %d", l, got, want)
	}
	if want == api.OK {
		return
	}
	for _, h := range []string{"a.com", "1.2.3.4", "", "A", strings.Repeat("a.", 200)} {
		ask(t, l, h, "", want, "", want)
	}
}

// ask for the public suffix and the owner of a host.
func ask(t *testing.T, l []api.Suffix, h, public string, e api.Errno, owner string, f api.Errno) {
	t.Helper()
	if got, g := Public(l, h); got != public || g != e {
		t.Errorf("Public(%v, %q) is %q %d, must be %q %d", l, h, got, g, public, e)
	}
	if got, g := Owner(l, h); got != owner || g != f {
		t.Errorf("Owner(%v, %q) is %q %d, must be %q %d", l, h, got, g, owner, f)
	}
}

// own: a host with a public suffix, and an owner ("" if it is its own public suffix).
func own(t *testing.T, l []api.Suffix, h, public, owner string) {
	t.Helper()
	f := api.OK
	if owner == "" {
		f = api.ErrNone
	}
	ask(t, l, h, public, api.OK, owner, f)
}

func many(n int) []api.Suffix {
	var out []api.Suffix
	for i := range n {
		out = append(out, api.Suffix{Kind: api.Plain, Name: strings.Repeat("a", i%63+1)})
	}
	return out
}

func TestE1Good(t *testing.T) {
	check(t, nil, api.OK)
	check(t, []api.Suffix{}, api.OK)
	check(t, list("com", "co.uk", "*ck", "!www.ck"), api.OK)
	check(t, list("a.b", "*a.b", "!a.b"), api.OK) // of three kinds, so not the same
	check(t, list("a", "b", "*a", "*b"), api.OK)
	check(t, list("0", "2.3.4", "1.2.3.256", "1.2.3.04", "1.2.3.4.5", "x.1.2.3.4", "1.2.3.4.x"), api.OK)
	check(t, list("!1.2", "!a-b.c"), api.OK)
	check(t, list(strings.Repeat("l", 63), strings.Repeat("a.", 126)+"a"), api.OK)
	check(t, many(api.MaxSuffixes), api.OK)
}

func TestE1Many(t *testing.T) {
	check(t, many(api.MaxSuffixes+1), api.ErrMany)
	check(t, make([]api.Suffix, api.MaxSuffixes+1), api.ErrMany)
	check(t, make([]api.Suffix, api.MaxSuffixes), api.ErrKind)
	check(t, append(many(api.MaxSuffixes), many(1)...), api.ErrMany)
	check(t, append(many(api.MaxSuffixes-1), many(1)...), api.ErrTwice)
}

func TestE1Kind(t *testing.T) {
	for _, kind := range []int{math.MinInt, -3, -1, 0, 4, 5, 1<<32 + 1, math.MaxInt} {
		for _, name := range []string{"com", "", "A", "1.2.3.4"} {
			check(t, []api.Suffix{{Kind: kind, Name: name}}, api.ErrKind)
			check(t, append(list("com"), api.Suffix{Kind: kind, Name: name}), api.ErrKind)
		}
	}
}

func TestE1Form(t *testing.T) {
	for _, name := range []string{"", ".", "..", "A.b", "a.B", "com.", ".com", "a..b", "-a.b", "a-.b", "a_b.c", "a b.c", " a.b", "a.b ", "*.ck", "!a.ck", "\u00e4.b", "\xff.b", "a.b\x00", "a.b:80", "1.2.3.4", "0.0.0.0", "255.255.255.255", "x." + strings.Repeat("l", 64), strings.Repeat("a.", 126) + "aa", strings.Repeat("a.", 1000) + "a"} {
		for kind := api.Plain; kind <= api.Except; kind++ {
			check(t, []api.Suffix{{Kind: kind, Name: name}}, api.ErrForm)
			check(t, append(list("com", "*com"), api.Suffix{Kind: kind, Name: name}), api.ErrForm)
		}
	}
	for _, name := range []string{"com", "a", "0", strings.Repeat("l", 63)} {
		check(t, list("!"+name), api.ErrForm)
		check(t, list(name, "*"+name), api.OK)
	}
}

func TestE1Twice(t *testing.T) {
	check(t, list("com", "com"), api.ErrTwice)
	check(t, list("*com", "*com"), api.ErrTwice)
	check(t, list("!a.com", "!a.com"), api.ErrTwice)
	check(t, list("com", "*com", "uk", "com"), api.ErrTwice)
	check(t, list("com", "COM"), api.ErrForm) // a Name is not folded
}

// TestE1Order: rule by rule, the first bad one tells, and of it the error named first.
func TestE1Order(t *testing.T) {
	noKind, noForm := api.Suffix{Kind: 9, Name: "com"}, api.Suffix{Kind: api.Plain}
	check(t, []api.Suffix{noKind, noForm}, api.ErrKind)
	check(t, []api.Suffix{noForm, noKind}, api.ErrForm)
	check(t, []api.Suffix{noKind, noKind}, api.ErrKind)
	check(t, []api.Suffix{noForm, noForm}, api.ErrForm)
	check(t, append(list("a", "a"), noForm), api.ErrTwice)
	check(t, append(list("a", "a"), noKind), api.ErrTwice)
	check(t, append([]api.Suffix{noForm}, list("a", "a")...), api.ErrForm)
	check(t, append([]api.Suffix{noKind}, list("a", "a")...), api.ErrKind)
}

func TestE2E3NoRules(t *testing.T) {
	for _, l := range [][]api.Suffix{nil, {}, list("net", "*net", "!x.net")} {
		own(t, l, "com", "com", "")
		own(t, l, "a.com", "com", "a.com")
		own(t, l, "c.b.a.com", "com", "a.com")
		own(t, l, "localhost", "localhost", "")
		own(t, l, "7", "7", "")
		own(t, l, "1.2.3", "3", "2.3")
		own(t, l, "netx", "netx", "")
		own(t, l, "a.xnet", "xnet", "a.xnet")
		own(t, l, "net.a", "a", "net.a")
	}
}

func TestE2E3Plain(t *testing.T) {
	l := list("com", "co.uk", "uk", "b.c.d.e")
	own(t, l, "com", "com", "")
	own(t, l, "www.shop.com", "com", "shop.com")
	own(t, l, "co.uk", "co.uk", "")
	own(t, l, "a.co.uk", "co.uk", "a.co.uk")
	own(t, l, "b.a.co.uk", "co.uk", "a.co.uk")
	own(t, l, "xco.uk", "uk", "xco.uk")
	own(t, l, "uk", "uk", "")
	own(t, l, "c.d.e", "e", "d.e") // a rule names nothing above it
	own(t, l, "b.c.d.e", "b.c.d.e", "")
	own(t, l, "a.b.c.d.e", "b.c.d.e", "a.b.c.d.e")
	own(t, list("co.uk", "uk"), "a.co.uk", "co.uk", "a.co.uk") // the longest one, whatever the order of the rules
	own(t, list("uk", "co.uk"), "a.co.uk", "co.uk", "a.co.uk")
}

func TestE2E3Wild(t *testing.T) {
	own(t, list("*ck"), "ck", "ck", "") // by no rule, as its last label
	own(t, list("*ck"), "x.ck", "x.ck", "")
	own(t, list("*ck"), "y.x.ck", "x.ck", "y.x.ck")
	own(t, list("*ck"), "z.y.x.ck", "x.ck", "y.x.ck")
	own(t, list("*ck"), "xck", "xck", "")
	own(t, list("*ck"), "a.xck", "xck", "a.xck")
	own(t, list("*a.ck"), "a.ck", "ck", "a.ck") // a Wild says nothing of its name itself
	own(t, list("*a.ck"), "b.a.ck", "b.a.ck", "")
	own(t, list("*a.ck", "a.ck"), "a.ck", "a.ck", "")
	own(t, list("*a.ck", "a.ck"), "c.b.a.ck", "b.a.ck", "c.b.a.ck")
	own(t, list("*ck", "y.x.ck"), "z.y.x.ck", "y.x.ck", "z.y.x.ck") // the longest one, of both kinds
	own(t, list("x.ck", "*x.ck", "*ck"), "z.y.x.ck", "y.x.ck", "z.y.x.ck")
	own(t, list("*y.x.ck", "*ck"), "y.x.ck", "x.ck", "y.x.ck")
}

func TestE2E3Except(t *testing.T) {
	l := list("*ck", "!www.ck")
	own(t, l, "www.ck", "ck", "www.ck")
	own(t, l, "a.www.ck", "ck", "www.ck")
	own(t, l, "b.a.www.ck", "ck", "www.ck")
	own(t, l, "wwww.ck", "wwww.ck", "")
	own(t, l, "ck", "ck", "")
	own(t, list("!www.ck"), "a.www.ck", "ck", "www.ck") // though there is nothing to except it from
	own(t, list("!x.y.ck"), "a.x.y.ck", "y.ck", "x.y.ck")
	own(t, list("!x.y.ck"), "y.ck", "ck", "y.ck")
	own(t, list("!www.ck", "a.www.ck", "www.ck"), "b.a.www.ck", "ck", "www.ck") // ahead of longer ones of other kinds
	own(t, list("*www.ck", "!www.ck"), "b.a.www.ck", "ck", "www.ck")
	nested := list("!x.ck", "!y.x.ck") // the longest one counts
	own(t, nested, "z.y.x.ck", "x.ck", "y.x.ck")
	own(t, nested, "y.x.ck", "x.ck", "y.x.ck")
	own(t, nested, "z.x.ck", "ck", "x.ck")
	slices.Reverse(nested)
	own(t, nested, "z.y.x.ck", "x.ck", "y.x.ck")
}

func TestE2E3Address(t *testing.T) {
	for _, l := range [][]api.Suffix{nil, list("4", "3.4", "*4", "*2.3.4", "2.3.4", "!3.4"), list("com")} {
		for _, h := range []string{"1.2.3.4", "0.0.0.0", "255.255.255.255"} {
			ask(t, l, h, "", api.OK, h, api.OK)
		}
	}
	own(t, nil, "1.2.3.256", "256", "3.256") // none of these is one
	own(t, nil, "01.2.3.4", "4", "3.4")
	own(t, nil, "x.1.2.3.4", "4", "3.4")
	own(t, list("2.3.4"), "x.1.2.3.4", "2.3.4", "1.2.3.4")
	own(t, list("*2.3.4"), "x.1.2.3.4", "1.2.3.4", "x.1.2.3.4")
	own(t, list("!2.3.4"), "x.1.2.3.4", "3.4", "2.3.4")
}

// TestE2E3Form: a host that is none as it is compared, long ones too.
func TestE2E3Form(t *testing.T) {
	long := strings.Repeat("a.", 126) + "a"
	for _, l := range [][]api.Suffix{nil, list("com", "*a", "!b.com")} {
		for _, h := range []string{"", ".", "A.com", "a.Com", "a..com", ".com", "com.", "-a.com", "a-.com", "a_b.com", "a b", " com", "com ", "\u00e4.com", "\xff", "a:80", "[::1]", "1.2.3.4.", "l" + strings.Repeat("l", 63), long + "a", long + ".a", strings.ToUpper(long)} {
			ask(t, l, h, "", api.ErrForm, "", api.ErrForm)
		}
	}
	own(t, nil, long, "a", "a.a")
	own(t, list(long), long, long, "")
	own(t, list(long[2:]), long, long[2:], long)
	own(t, list("*"+long[2:]), long, long, "")
	own(t, list("!"+long), long, long[2:], long)
}

// scraps: rules and hosts of few labels, so that they meet often.
func scraps(r *rand.Rand) ([]api.Suffix, string) {
	labels := []string{"a", "b", "1", "2"}
	name := func(least int) string {
		var l []string
		for range least + r.Intn(5) {
			l = append(l, labels[r.Intn(len(labels))])
		}
		return strings.Join(l, ".")
	}
	var l []api.Suffix
	for range r.Intn(8) {
		s := api.Suffix{Kind: 1 + r.Intn(3), Name: name(1)}
		if s.Kind == api.Except && !strings.Contains(s.Name, ".") || host.Address(s.Name) || slices.Contains(l, s) {
			continue
		}
		l = append(l, s)
	}
	return l, name(1 + r.Intn(2))
}

// labelsOf the public suffix: how many labels at a host's end, told by going through the rules instead of the host.
func labelsOf(l []api.Suffix, h string) int {
	most, excepted := 1, 0
	all := strings.Count(h, ".") + 1
	for _, s := range l {
		n := strings.Count(s.Name, ".") + 1
		if h != s.Name && !strings.HasSuffix(h, "."+s.Name) {
			continue
		}
		switch {
		case s.Kind == api.Except:
			excepted = max(excepted, n-1)
		case s.Kind == api.Wild && n < all:
			most = max(most, n+1)
		case s.Kind == api.Plain:
			most = max(most, n)
		}
	}
	if excepted > 0 {
		return excepted
	}
	return most
}

// TestE2E3E4Scraps: as the rules tell it, whatever their order; and who owns an owner is that owner itself.
func TestE2E3E4Scraps(t *testing.T) {
	r := rand.New(rand.NewSource(5))
	for range 50000 {
		l, h := scraps(r)
		if e := Check(l); e != api.OK {
			t.Fatalf("Check(%v) is %d", l, e)
		}
		if host.Address(h) {
			ask(t, l, h, "", api.OK, h, api.OK)
			continue
		}
		labels := strings.Split(h, ".")
		at := len(labels) - labelsOf(l, h)
		owner := ""
		if at > 0 {
			owner = strings.Join(labels[at-1:], ".")
		}
		own(t, l, h, strings.Join(labels[at:], "."), owner)
		r.Shuffle(len(l), func(i, k int) { l[i], l[k] = l[k], l[i] })
		own(t, l, h, strings.Join(labels[at:], "."), owner)
		if owner == "" {
			continue
		}
		if again, e := Owner(l, owner); again != owner || e != api.OK {
			t.Errorf("by %v %q owns %q, and %q %d owns that", l, owner, h, again, e)
		}
	}
}

// TestE4: of owners that a rule names, and of one that is an address.
func TestE4(t *testing.T) {
	l := list("com", "*ck", "!www.ck", "!a.www.ck", "*a.com", "2.3.4")
	for _, h := range []string{"b.com", "c.b.com", "x.y.ck", "z.x.y.ck", "www.ck", "b.www.ck", "a.www.ck", "c.a.www.ck", "c.b.a.com", "1.2.3.4", "x.1.2.3.4", "y.x.1.2.3.4", "9.2.3.4"} {
		o, e := Owner(l, h)
		if e != api.OK || !host.Match(h, o) {
			t.Errorf("Owner of %q is %q %d", h, o, e)
		}
		if again, e := Owner(l, o); again != o || e != api.OK {
			t.Errorf("%q owns %q, and %q %d owns that", o, h, again, e)
		}
	}
}

// TestP2: rules are only read, the spare room behind them too, and are not kept.
func TestP2(t *testing.T) {
	whole := list("com", "*ck", "!www.ck", "spare", "room")
	was := slices.Clone(whole)
	l := whole[:3]
	check(t, l, api.OK)
	own(t, l, "a.www.ck", "ck", "www.ck")
	if !slices.Equal(whole, was) {
		t.Errorf("what was handed in is changed: %v", whole)
	}
	l[2] = api.Suffix{Kind: api.Plain, Name: "a.www.ck"}
	own(t, l, "a.www.ck", "a.www.ck", "")
	own(t, whole[:0], "a.www.ck", "ck", "www.ck")
}

// answers of all calls of this package.
type answers struct {
	public, owner string
	check, e, f   api.Errno
}

func all(l []api.Suffix, h string) answers {
	var a answers
	a.check = Check(l)
	a.public, a.e = Public(l, h)
	a.owner, a.f = Owner(l, h)
	return a
}

// TestP1P3: no call panics; with an error all else is empty; and what was asked between changes no answer.
func TestP1P3(t *testing.T) {
	texts := []string{"", ".", "a", "b.a", "c.b.a", "A", "\xff", "1.2.3.4", "x.1.2.3.4", "a.", strings.Repeat("b.", 126) + "a", strings.Repeat("b.", 127) + "a"}
	r := rand.New(rand.NewSource(6))
	var lists [][]api.Suffix
	var hosts []string
	var first []answers
	for range 20000 {
		l := make([]api.Suffix, r.Intn(4))
		for i := range l {
			l[i] = api.Suffix{Kind: r.Intn(5), Name: texts[r.Intn(len(texts))]}
		}
		h := texts[r.Intn(len(texts))]
		a := all(l, h)
		if a.e != api.OK && a.public != "" || a.f != api.OK && a.owner != "" || a.check != api.OK && (a.e != a.check || a.f != a.check) {
			t.Fatalf("%v %q: %+v", l, h, a)
		}
		lists, hosts, first = append(lists, l), append(hosts, h), append(first, a)
	}
	for i, h := range hosts {
		if again := all(lists[i], h); again != first[i] {
			t.Errorf("%v %q: first %+v, then %+v", lists[i], h, first[i], again)
		}
	}
}

// TestP4: millions of rules, and texts of millions of bytes, are answered soon.
func TestP4(t *testing.T) {
	const n = 1 << 22
	begun := time.Now()
	s := strings.Repeat("a.", n) + "a"
	ask(t, nil, s, "", api.ErrForm, "", api.ErrForm)
	for range 100 {
		if Check([]api.Suffix{{Kind: api.Plain, Name: s}}) != api.ErrForm || Check(make([]api.Suffix, n)) != api.ErrMany {
			t.Fatal("too much is answered otherwise")
		}
	}
	if d := time.Since(begun); d > time.Minute {
		t.Errorf("it took %v", d)
	}
}
