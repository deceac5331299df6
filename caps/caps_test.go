package caps

import (
	"math"
	"math/rand"
	"slices"
	"strings"
	"testing"
	"time"

	"gingersnap/api"
)

func rule(kind int, text string, purpose, vendor int) api.Rule {
	return api.Rule{Kind: kind, Text: text, Purpose: purpose, Vendor: vendor}
}

// base: by a cookie's name, each purpose, which lets it last a hundred seconds more than the one before.
func base() api.Policy {
	p := api.Policy{Default: 3}
	for i := range p.Caps {
		p.Caps[i] = 100 * (i + 1)
		if i != p.Default {
			p.Rules = append(p.Rules, rule(api.ByName, string(rune('a'+i)), i, i))
		}
	}
	return p
}

func latest(t *testing.T, p api.Policy, c api.Cookie, want int, f api.Errno) {
	t.Helper()
	if got, e := Latest(p, c); got != want || e != f {
		t.Errorf("Latest(%v, %v) is %d %d, must be %d %d", p, c, got, e, want, f)
	}
}

func clamp(t *testing.T, p api.Policy, c, want api.Cookie, f api.Errno) {
	t.Helper()
	if got, e := Clamp(p, c); got != want || e != f {
		t.Errorf("Clamp(%v, %v) is %v %d, must be %v %d", p, c, got, e, want, f)
	}
}

// fails: both calls answer an error, and nothing else.
func fails(t *testing.T, p api.Policy, c api.Cookie, f api.Errno) {
	t.Helper()
	latest(t, p, c, 0, f)
	clamp(t, p, c, api.Cookie{}, f)
}

// until: both calls answer the moment up to which a cookie may last; one that would last longer, as long or less long is clamped.
func until(t *testing.T, p api.Policy, c api.Cookie, want int) {
	t.Helper()
	latest(t, p, c, want, api.OK)
	for _, n := range []int{math.MinInt, api.FirstMoment, want - 1, want, want + 1, api.LastMoment, math.MaxInt} {
		in, out := c, c
		in.Expiry, out.Expiry = n, min(n, want)
		latest(t, p, in, want, api.OK)
		clamp(t, p, in, out, api.OK)
	}
}

func TestP5(t *testing.T) {
	p := base()
	for i := range 11 {
		c := api.Cookie{Name: string(rune('a' + i)), Created: 1000}
		until(t, p, c, 1000+100*(i+1))
		c.Created = -5000
		until(t, p, c, -5000+100*(i+1))
	}
	until(t, p, api.Cookie{Name: "A", Created: 1000}, 1400)
	until(t, p, api.Cookie{}, 400)
	p.Rules = []api.Rule{rule(api.ByDomain, "ads.com", 10, 40), rule(api.BySuffix, "_x", 1, 0), rule(api.ByPrefix, "ad_", 0, 1)}
	until(t, p, api.Cookie{Name: "ad_x", Domain: "x.ads.com"}, 1100)
	until(t, p, api.Cookie{Name: "ad_x", Domain: "xads.com"}, 200)
	until(t, p, api.Cookie{Name: "ad_y", Domain: "com"}, 100)
	until(t, p, api.Cookie{Name: "id", Domain: "com"}, 400)
}

// TestP5Edges: moments and caps as early, as late, as small and as great as they may be.
func TestP5Edges(t *testing.T) {
	p := base()
	c := api.Cookie{Name: "a"}
	p.Caps[0] = api.MaxCap
	for _, n := range [][2]int{
		{api.FirstMoment, -10644473600}, {0, 1000000000}, {api.LastMoment - api.MaxCap - 1, api.LastMoment - 1},
		{api.LastMoment - api.MaxCap, api.LastMoment}, {api.LastMoment - api.MaxCap + 1, api.LastMoment}, {api.LastMoment - 1, api.LastMoment}, {api.LastMoment, api.LastMoment},
	} {
		c.Created = n[0]
		until(t, p, c, n[1])
	}
	p.Caps[0] = 1
	for _, n := range [][2]int{{api.FirstMoment, api.FirstMoment + 1}, {-1, 0}, {0, 1}, {api.LastMoment - 1, api.LastMoment}, {api.LastMoment, api.LastMoment}} {
		c.Created = n[0]
		until(t, p, c, n[1])
	}
}

// TestP5All: all that a cookie has stays, but its expiry.
func TestP5All(t *testing.T) {
	c := api.Cookie{Name: "a", Value: "v", Domain: "d", Path: "/p", HostOnly: true, Secure: true, HttpOnly: true, Lasting: true, Site: 3, Expiry: 5000, Created: 1000, Used: 9999, No: 77}
	want := c
	want.Expiry = 1100
	clamp(t, base(), c, want, api.OK)
	c.Lasting, want.Lasting = false, false
	c.Site, want.Site = -9, -9
	clamp(t, base(), c, want, api.OK)
}

// TestP5Errors: what is wrong with the policy tells, and then what is wrong with the moment.
func TestP5Errors(t *testing.T) {
	good, early := api.Cookie{Name: "a", Created: 1000, Expiry: 5}, api.Cookie{Name: "a", Created: api.FirstMoment - 1, Expiry: 5}
	many, kind, form, purpose := base(), base(), base(), base()
	many.Rules = slices.Repeat(many.Rules, 2)
	kind.Rules[3].Kind = 5
	form.Rules[9].Text = ""
	purpose.Rules[9].Purpose = 11
	other, low, high := base(), base(), base()
	other.Default = -1
	low.Caps[9], high.Caps[9] = 0, api.MaxCap+1
	for _, c := range []api.Cookie{good, early} {
		fails(t, many, c, api.ErrMany)
		fails(t, kind, c, api.ErrKind)
		fails(t, form, c, api.ErrForm)
		for _, p := range []api.Policy{purpose, other, low, high, {}} {
			fails(t, p, c, api.ErrRange)
		}
	}
	for _, n := range []int{math.MinInt, api.FirstMoment - 1, api.LastMoment + 1, math.MaxInt} {
		fails(t, base(), api.Cookie{Name: "a", Created: n, Expiry: 5}, api.ErrRange)
	}
}

// some policy that may be, and a cookie.
func some(r *rand.Rand) (api.Policy, api.Cookie) {
	text := func() string { return []string{"a", "b", "ab", "b.a", "a.b.a"}[r.Intn(5)] }
	p := api.Policy{Default: r.Intn(11)}
	for range r.Intn(6) {
		p.Rules = append(p.Rules, rule(1+r.Intn(4), text(), r.Intn(11), r.Intn(41)))
	}
	for i := range p.Caps {
		p.Caps[i] = 1 + r.Intn(1<<r.Intn(30))
	}
	created := r.Intn(4000) - 2000
	if r.Intn(4) == 0 {
		created = api.LastMoment - r.Intn(1<<r.Intn(30))
	}
	return p, api.Cookie{Name: text(), Domain: text(), Created: created, Expiry: created + r.Intn(1<<r.Intn(32))}
}

// TestP6: whoever is clamped twice is clamped once, and lower caps let nothing last longer.
func TestP6(t *testing.T) {
	r := rand.New(rand.NewSource(1))
	for range 20000 {
		p, c := some(r)
		d, e := Clamp(p, c)
		n, f := Latest(p, c)
		if e != api.OK || f != api.OK || d.Expiry > c.Expiry || d.Expiry > n || d.Expiry != c.Expiry && d.Expiry != n {
			t.Fatalf("Clamp(%v, %v) is %v %d, Latest %d %d", p, c, d, e, n, f)
		}
		clamp(t, p, d, d, api.OK)
		lower := p
		for i := range lower.Caps {
			lower.Caps[i] -= r.Intn(lower.Caps[i])
		}
		low, _ := Clamp(lower, c)
		if m, g := Latest(lower, c); g != api.OK || m > n || low.Expiry > d.Expiry {
			t.Fatalf("Latest(%v, %v) is %d %d, by higher caps it is %d", lower, c, m, g, n)
		}
		clamp(t, lower, d, low, api.OK)
		clamp(t, p, low, low, api.OK)
	}
}

// TestP2: what is handed in is only read, the spare room behind it too.
func TestP2(t *testing.T) {
	p := base()
	rules := append(slices.Clone(p.Rules), rule(api.ByName, "spare", 0, 0))
	before := slices.Clone(rules)
	p.Rules = rules[:10]
	for _, c := range []api.Cookie{{Name: "a"}, {Name: "spare", Expiry: 9999}} {
		Latest(p, c)
		Clamp(p, c)
	}
	if !slices.Equal(rules, before) {
		t.Errorf("changed: %v", rules)
	}
	until(t, p, api.Cookie{Name: "spare"}, 400)
}

// TestP1P3: no call panics; with an error there is nothing else; and what was asked between changes no answer.
func TestP1P3(t *testing.T) {
	type answers struct {
		n    int
		c    api.Cookie
		e, f api.Errno
	}
	ask := func(i int) answers {
		r := rand.New(rand.NewSource(int64(i)))
		p, c := some(r)
		if r.Intn(3) == 0 {
			p.Default = r.Intn(20) - 5
		}
		if r.Intn(3) == 0 {
			c.Created = int(r.Uint64())
		}
		if r.Intn(3) == 0 {
			p.Rules = append(p.Rules, rule(r.Intn(6), c.Name, r.Intn(14)-2, 0))
		}
		var o answers
		o.n, o.e = Latest(p, c)
		o.c, o.f = Clamp(p, c)
		if o.e != o.f || o.e != api.OK && (o.n != 0 || o.c != api.Cookie{}) {
			t.Fatalf("%v, %v: %+v", p, c, o)
		}
		return o
	}
	var first []answers
	for i := range 5000 {
		first = append(first, ask(i))
	}
	for i := len(first) - 1; i >= 0; i-- {
		if o := ask(i); o != first[i] {
			t.Errorf("first %v, then %v", first[i], o)
		}
	}
}

// TestP4: rules and names of millions are answered as few and short ones are, and soon.
func TestP4(t *testing.T) {
	begun := time.Now()
	const n = 1 << 20
	p := base()
	long := api.Cookie{Name: strings.Repeat("a", n), Domain: strings.Repeat("a.", n), Created: 1000}
	until(t, p, long, 1400)
	p.Rules = make([]api.Rule, n)
	fails(t, p, long, api.ErrMany)
	if d := time.Since(begun); d > time.Minute {
		t.Errorf("it took %v", d)
	}
}
