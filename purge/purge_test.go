package purge

import (
	"math"
	"math/rand"
	"reflect"
	"slices"
	"strings"
	"testing"
	"time"

	"gingersnap/api"
	"gingersnap/grant"
	"gingersnap/jar"
)

const now = 1000

// noMoments: numbers that are no moments.
var noMoments = []int{math.MinInt, api.FirstMoment - 1, api.LastMoment + 1, math.MaxInt}

// rules: names that begin by must are for purpose 0, ads for purpose 1 by vendor 3, of shop for purpose 2, of tracker.com for purpose 0 by vendor 9; all others are for purpose 10. Each purpose lets last a hundred seconds more than the one before.
func rules() api.Policy {
	p := api.Policy{Default: 10, Rules: []api.Rule{
		{Kind: api.ByPrefix, Text: "must"},
		{Kind: api.ByName, Text: "ads", Purpose: 1, Vendor: 3},
		{Kind: api.BySuffix, Text: "shop", Purpose: 2},
		{Kind: api.ByDomain, Text: "tracker.com", Vendor: 9},
	}}
	for i := range p.Caps {
		p.Caps[i] = 100 * (i + 1)
	}
	return p
}

func given(purposes []int, vendors ...int) api.Consent {
	g := api.Consent{Given: 500, Vendors: vendors}
	for _, n := range purposes {
		g.Purposes[n-1] = true
	}
	return g
}

// all that may be given.
func all() api.Consent {
	g := given([]int{1, 2, 3, 4, 5, 6, 7, 8, 9, 10})
	for i := range api.MaxVendor {
		g.Vendors = append(g.Vendors, i+1)
	}
	return g
}

// cookies of which each is for something else; they came at 1000, one second after the other.
func cookies() []api.Cookie {
	l := []api.Cookie{{Name: "must_id"}, {Name: "ads"}, {Name: "myshop"}, {Name: "t", Domain: "a.tracker.com"}, {Name: "else"}}
	for i := range l {
		l[i].Path, l[i].Expiry, l[i].Created, l[i].Used, l[i].No = "/", 9000, 1000+i, 2000+i, 10+i
	}
	return l
}

func same(a, b api.Jar) bool { return a.Next == b.Next && slices.Equal(a.Cookies, b.Cookies) }

func gate(t *testing.T, p api.Policy, g api.Consent, c, want api.Cookie, f api.Errno) {
	t.Helper()
	if got, e := Gate(p, g, c); got != want || e != f {
		t.Errorf("Gate(%v, %v, %v) is\n%v %d, must be\n%v %d", p, g, c, got, e, want, f)
	}
}

func purged(t *testing.T, j api.Jar, p api.Policy, g api.Consent, n int, want api.Jar, gone int, f api.Errno) {
	t.Helper()
	if got, k, e := Purge(j, p, g, n); !same(got, want) || k != gone || e != f {
		t.Errorf("Purge(%v, %v, %v, %d) is\n%v %d %d, must be\n%v %d %d", j, p, g, n, got, k, e, want, gone, f)
	}
}

// kept: of the cookies some may be kept, each up to its last moment, and all others are barred.
func kept(t *testing.T, g api.Consent, until map[int]int) {
	t.Helper()
	j := api.Jar{Cookies: cookies(), Next: 77}
	want := api.Jar{Next: 77}
	for i, c := range j.Cookies {
		n, may := until[i]
		if !may {
			gate(t, rules(), g, c, api.Cookie{}, api.ErrBar)
			continue
		}
		d := c
		d.Expiry = n
		gate(t, rules(), g, c, d, api.OK)
		want.Cookies = append(want.Cookies, d)
	}
	purged(t, j, rules(), g, now, want, 5-len(until), api.OK)
}

func TestR1R2Kept(t *testing.T) {
	kept(t, api.Consent{}, map[int]int{0: 1100})
	kept(t, given([]int{1}), map[int]int{0: 1100})
	kept(t, given(nil, 3), map[int]int{0: 1100})
	kept(t, given([]int{1}, 2, 4), map[int]int{0: 1100})
	kept(t, given([]int{1}, 3), map[int]int{0: 1100, 1: 1201})
	kept(t, given([]int{2}), map[int]int{0: 1100, 2: 1302})
	kept(t, given(nil, 9), map[int]int{0: 1100, 3: 1103})
	kept(t, given([]int{10}), map[int]int{0: 1100, 4: 2104})
	kept(t, given([]int{3, 4, 5, 6, 7, 8, 9}, 1, 2, 4, 40), map[int]int{0: 1100})
	kept(t, given([]int{2, 10}, 3, 9), map[int]int{0: 1100, 2: 1302, 3: 1103, 4: 2104})
	kept(t, all(), map[int]int{0: 1100, 1: 1201, 2: 1302, 3: 1103, 4: 2104})
}

// TestR1: a cookie may be kept though it isn't live, and loses nothing but what it lasts.
func TestR1(t *testing.T) {
	c := api.Cookie{Name: "must", Value: "v", Domain: "d", Path: "/p", HostOnly: true, Secure: true, HttpOnly: true, Lasting: true, Site: 7, Expiry: 1101, Created: 1000, Used: math.MaxInt, No: -5}
	for _, n := range [][2]int{{1101, 1100}, {1100, 1100}, {1099, 1099}, {math.MaxInt, 1100}, {999, 999}, {math.MinInt, math.MinInt}} {
		in, out := c, c
		in.Expiry, out.Expiry = n[0], n[1]
		gate(t, rules(), api.Consent{}, in, out, api.OK)
	}
	for _, n := range [][2]int{{api.FirstMoment, api.FirstMoment + 100}, {api.LastMoment, api.LastMoment}, {api.LastMoment - 99, api.LastMoment}} {
		in, out := c, c
		in.Created, in.Expiry = n[0], math.MaxInt
		out.Created, out.Expiry = n[0], n[1]
		gate(t, rules(), api.Consent{}, in, out, api.OK)
	}
}

// badPolicies, each with what is wrong with it.
func badPolicies() map[api.Errno][]api.Policy {
	many, kind, form, purpose, cap := rules(), rules(), rules(), rules(), rules()
	many.Rules = slices.Repeat(many.Rules, 4)
	kind.Rules[3].Kind = 0
	form.Rules[3].Text = ""
	purpose.Rules[3].Purpose = 11
	cap.Caps[10] = 0
	return map[api.Errno][]api.Policy{api.ErrMany: {many}, api.ErrKind: {kind}, api.ErrForm: {form}, api.ErrRange: {purpose, cap, {}}}
}

// badConsents, each with what is wrong with it.
func badConsents() map[api.Errno][]api.Consent {
	early, late := all(), all()
	early.Given, late.Given = -1, api.MaxGiven+1
	return map[api.Errno][]api.Consent{api.ErrRange: {early, late, given(nil, 0), given(nil, 41)}, api.ErrState: {given(nil, 9, 3), given(nil, 3, 3)}}
}

func TestR1Errors(t *testing.T) {
	good := cookies()
	early, late := good[0], good[1]
	early.Created, late.Created = api.FirstMoment-1, api.LastMoment+1
	for _, c := range append(good, early, late) {
		for e, l := range badPolicies() {
			for _, p := range l {
				gate(t, p, all(), c, api.Cookie{}, e)
				gate(t, p, given(nil, 9, 3), c, api.Cookie{}, e)
			}
		}
		for e, l := range badConsents() {
			for _, g := range l {
				gate(t, rules(), g, c, api.Cookie{}, e)
			}
		}
	}
	for _, n := range noMoments {
		for i := range good { // some of which would be barred
			c := good[i]
			c.Created = n
			gate(t, rules(), all(), c, api.Cookie{}, api.ErrRange)
			gate(t, rules(), api.Consent{}, c, api.Cookie{}, api.ErrRange)
		}
	}
}

// TestR2Live: what is clamped is dead sooner, and goes then.
func TestR2Live(t *testing.T) {
	l := cookies()
	l[2].Expiry = 1050
	j := api.Jar{Cookies: l, Next: 15}
	clamped := slices.Clone(l)
	for i, n := range []int{1100, 1201, 1050, 1103, 2104} {
		clamped[i].Expiry = n
	}
	for _, x := range []struct {
		n    int
		stay []int
	}{
		{api.FirstMoment, []int{0, 1, 2, 3, 4}}, {1049, []int{0, 1, 2, 3, 4}}, {1050, []int{0, 1, 3, 4}}, {1099, []int{0, 1, 3, 4}}, {1100, []int{1, 3, 4}},
		{1102, []int{1, 3, 4}}, {1103, []int{1, 4}}, {1200, []int{1, 4}}, {1201, []int{4}}, {2103, []int{4}}, {2104, nil}, {8999, nil}, {api.LastMoment, nil},
	} {
		want := api.Jar{Next: 15}
		for _, i := range x.stay {
			want.Cookies = append(want.Cookies, clamped[i])
		}
		purged(t, j, rules(), all(), x.n, want, 5-len(x.stay), api.OK)
	}
	for _, n := range []int{0, api.MaxNo} {
		purged(t, api.Jar{Next: n}, rules(), api.Consent{}, now, api.Jar{Next: n}, 0, api.OK)
	}
	dead := l[0]
	dead.Expiry, dead.No = math.MinInt, 0
	purged(t, api.Jar{Cookies: []api.Cookie{dead}, Next: 1}, rules(), all(), api.FirstMoment, api.Jar{Next: 1}, 1, api.OK)
}

func TestR2Errors(t *testing.T) {
	good := api.Jar{Cookies: cookies(), Next: 15}
	fails := func(j api.Jar, p api.Policy, g api.Consent, n int, f api.Errno) {
		t.Helper()
		purged(t, j, p, g, n, api.Jar{}, 0, f)
	}
	state, twice, moment := good, good, good
	state.Next = 14
	twice.Cookies, moment.Cookies = cookies(), cookies()
	twice.Cookies[4].No = 10
	moment.Cookies[4].Used = api.LastMoment + 1
	jars := map[api.Errno][]api.Jar{api.ErrMany: {{Cookies: make([]api.Cookie, 13)}}, api.ErrRange: {moment, {Next: -1}, {Next: api.MaxNo + 1}}, api.ErrState: {state}, api.ErrTwice: {twice}}
	for e, l := range jars {
		for _, j := range l {
			for _, n := range []int{now, api.LastMoment + 1} {
				fails(j, rules(), all(), n, e)
				for _, p := range badPolicies()[api.ErrKind] {
					fails(j, p, given(nil, 0), n, e)
				}
			}
		}
	}
	for _, j := range []api.Jar{{}, good} {
		for _, n := range []int{now, api.LastMoment + 1} {
			for e, l := range badPolicies() {
				for _, p := range l {
					fails(j, p, all(), n, e)
					fails(j, p, given(nil, 9, 3), n, e)
				}
			}
			for e, l := range badConsents() {
				for _, g := range l {
					fails(j, rules(), g, n, e)
				}
			}
		}
		for _, n := range noMoments {
			fails(j, rules(), api.Consent{}, n, api.ErrRange)
		}
	}
}

func someConsent(r *rand.Rand) api.Consent {
	g := api.Consent{Given: r.Intn(1000)}
	for i := range g.Purposes {
		g.Purposes[i] = r.Intn(4) > 0
	}
	for i := range api.MaxVendor {
		if r.Intn(4) > 0 {
			g.Vendors = append(g.Vendors, i+1)
		}
	}
	return g
}

// some jar, policy and consent.
func some(r *rand.Rand) (api.Jar, api.Policy, api.Consent) {
	text := func() string { return []string{"a", "b", "ab", "b.a", "a.b.a"}[r.Intn(5)] }
	p := api.Policy{Default: r.Intn(11)}
	for range r.Intn(6) {
		p.Rules = append(p.Rules, api.Rule{Kind: 1 + r.Intn(4), Text: text(), Purpose: r.Intn(11), Vendor: r.Intn(41) * r.Intn(2)})
	}
	for i := range p.Caps {
		p.Caps[i] = 1 + r.Intn(300)
	}
	var j api.Jar
	for range r.Intn(12) {
		n := now + r.Intn(200) - 150
		j, _ = jar.Put(j, api.Cookie{Name: text(), Domain: text(), Path: "/", Created: n, Used: n, Expiry: n + r.Intn(300)}, now-200)
	}
	return j, p, someConsent(r)
}

// TestR3: purged twice it is purged once; and by one consent, then by another one, it is purged by both ones' Meet.
func TestR3(t *testing.T) {
	r := rand.New(rand.NewSource(1))
	stayed, went := 0, 0
	for range 20000 {
		j, p, g := some(r)
		n := now + r.Intn(200) - 100
		k, gone, e := Purge(j, p, g, n)
		if e != api.OK || gone != len(j.Cookies)-len(k.Cookies) || jar.Check(k) != api.OK {
			t.Fatalf("Purge(%v, %v, %v, %d) is %v %d %d", j, p, g, n, k, gone, e)
		}
		stayed, went = stayed+len(k.Cookies), went+gone
		purged(t, k, p, g, n, k, 0, api.OK)
		other := someConsent(r)
		both, _ := grant.Meet(g, other)
		want, all, _ := Purge(j, p, both, n)
		purged(t, k, p, other, n, want, all-gone, api.OK)
		for _, c := range k.Cookies { // what stays may be kept as it is
			gate(t, p, g, c, c, api.OK)
		}
	}
	if stayed < 1000 || went < 1000 {
		t.Errorf("%d stayed and %d went: the cookies prove nothing", stayed, went)
	}
}

// TestP2: what is handed in is only read, the spare room behind it too.
func TestP2(t *testing.T) {
	room := append(cookies(), api.Cookie{Name: "must_spare"})
	p, g := rules(), all()
	extra, more := append(p.Rules, api.Rule{Kind: 9}), append(g.Vendors, 99)
	before := [3]any{slices.Clone(room), slices.Clone(extra), slices.Clone(more)}
	for _, n := range []int{now, 1103, 9999} {
		for _, size := range []int{0, 3, 5} {
			k, _, _ := Purge(api.Jar{Cookies: room[:size], Next: 15}, api.Policy{Rules: extra[:4], Default: 10, Caps: p.Caps}, api.Consent{Purposes: g.Purposes, Vendors: more[:40]}, n)
			for i := range k.Cookies {
				k.Cookies[i] = api.Cookie{}
			}
			_ = append(k.Cookies, api.Cookie{Name: "more"})
		}
	}
	if after := [3]any{room, extra, more}; !reflect.DeepEqual(after, before) {
		t.Errorf("changed: %v", after)
	}
}

// TestP1P3: no call panics; with an error there is nothing else; and what was asked between changes no answer.
func TestP1P3(t *testing.T) {
	type answers struct {
		j    api.Jar
		gone int
		c    api.Cookie
		e, f api.Errno
	}
	ask := func(i int) answers {
		r := rand.New(rand.NewSource(int64(i)))
		odd := func(n int) int {
			if r.Intn(20) == 0 {
				return int(r.Uint64())
			}
			return n
		}
		j, p, g := some(r)
		for i := range j.Cookies {
			j.Cookies[i].Created, j.Cookies[i].Expiry = odd(j.Cookies[i].Created), odd(j.Cookies[i].Expiry)
		}
		p.Default, p.Caps[3], g.Given = odd(p.Default), odd(p.Caps[3]), odd(g.Given)
		var o answers
		o.j, o.gone, o.e = Purge(j, p, g, odd(now))
		o.c, o.f = Gate(p, g, api.Cookie{Name: "a", Created: odd(now), Expiry: odd(now)})
		if o.e != api.OK && (!same(o.j, api.Jar{}) || o.gone != 0) || o.f != api.OK && o.c != (api.Cookie{}) {
			t.Fatalf("%v, %v, %v: %+v", j, p, g, o)
		}
		return o
	}
	var first []answers
	for i := range 5000 {
		first = append(first, ask(i))
	}
	for i := len(first) - 1; i >= 0; i-- {
		if o := ask(i); !reflect.DeepEqual(o, first[i]) {
			t.Errorf("first %v, then %v", first[i], o)
		}
	}
}

// TestP4: cookies, rules and vendors of millions, and texts of millions, are answered as few and short ones are, and soon.
func TestP4(t *testing.T) {
	begun := time.Now()
	const n = 1 << 22
	long := strings.Repeat("a.", n)
	c := api.Cookie{Name: long, Domain: long + "tracker.com", Path: long, Created: 1000, Expiry: 9000}
	d := c
	d.Expiry = 1100
	gate(t, rules(), all(), c, d, api.OK)
	j := api.Jar{Cookies: []api.Cookie{c}, Next: 1}
	purged(t, j, rules(), all(), now, api.Jar{Cookies: []api.Cookie{d}, Next: 1}, 0, api.OK)
	purged(t, j, rules(), api.Consent{}, now, api.Jar{Next: 1}, 1, api.OK)
	many := api.Policy{Rules: make([]api.Rule, n)}
	falling := api.Consent{Vendors: make([]int, n)}
	for i := range falling.Vendors {
		falling.Vendors[i] = 40 - i
	}
	gate(t, many, falling, c, api.Cookie{}, api.ErrMany)
	gate(t, rules(), falling, c, api.Cookie{}, api.ErrState)
	purged(t, api.Jar{Cookies: make([]api.Cookie, n)}, many, falling, now, api.Jar{}, 0, api.ErrMany)
	if d := time.Since(begun); d > time.Minute {
		t.Errorf("it took %v", d)
	}
}
