package policy

import (
	"math"
	"math/rand"
	"slices"
	"strings"
	"testing"
	"time"

	"gingersnap/api"
)

// caps that may stand in a policy.
func caps() [11]int {
	var out [11]int
	for i := range out {
		out[i] = i + 1
	}
	return out
}

func rule(kind int, text string, purpose, vendor int) api.Rule {
	return api.Rule{Kind: kind, Text: text, Purpose: purpose, Vendor: vendor}
}

func of(rules ...api.Rule) api.Policy {
	return api.Policy{Rules: rules, Caps: caps()}
}

func check(t *testing.T, p api.Policy, want api.Errno) {
	t.Helper()
	if got := Check(p); got != want {
		t.Errorf("Check(%v) is %d, must be %d", p, got, want)
	}
}

func kind(t *testing.T, p api.Policy, c api.Cookie, purpose, vendor int) {
	t.Helper()
	if a, b := Kind(p, c); a != purpose || b != vendor {
		t.Errorf("Kind(%v, %v) is %d %d, must be %d %d", p, c, a, b, purpose, vendor)
	}
}

// names: does a rule name a cookie, as it must?
func names(t *testing.T, r api.Rule, c api.Cookie, want bool) {
	t.Helper()
	r.Purpose, r.Vendor = 3, 7
	p := api.Policy{Rules: []api.Rule{r}, Default: 5}
	if want {
		kind(t, p, c, 3, 7)
	} else {
		kind(t, p, c, 5, 0)
	}
}

func lets(t *testing.T, p api.Policy, g api.Consent, c api.Cookie, want bool) {
	t.Helper()
	if got := Lets(p, g, c); got != want {
		t.Errorf("Lets(%v, %v, %v) is %v, must be %v", p, g, c, got, want)
	}
}

func TestO1Good(t *testing.T) {
	check(t, of(), api.OK)
	check(t, of(rule(api.ByName, "id", 0, 0), rule(api.ByPrefix, "ad_", 10, 40), rule(api.BySuffix, "_x", 1, 1), rule(api.ByDomain, "a.ads.com", 9, 39)), api.OK)
	check(t, of(slices.Repeat([]api.Rule{rule(api.ByName, "a", 0, 0)}, api.MaxRules)...), api.OK)
	for n := range 11 {
		p := of(rule(api.ByName, "a", n, 0))
		p.Default = n
		check(t, p, api.OK)
	}
	for v := range 41 {
		check(t, of(rule(api.ByDomain, "a", 0, v)), api.OK)
	}
	for _, n := range []int{1, 2, 999999999, api.MaxCap} {
		p := of()
		for i := range p.Caps {
			p.Caps[i] = n
		}
		check(t, p, api.OK)
	}
	for k := 1; k <= 3; k++ {
		for _, text := range []string{"a", "A", " ", "\x00", "\xff", "a..b", ";=", strings.Repeat("a", api.MaxText), strings.Repeat(".", api.MaxText)} {
			check(t, of(rule(k, text, 0, 0)), api.OK)
		}
	}
	longest := strings.Repeat("aaaa.", 50) + "com"
	for _, h := range []string{"a", "com", "1.2.3.4", "256.1.1.1", "a-b.com", strings.Repeat("z", 63), longest} {
		check(t, of(rule(api.ByDomain, h, 0, 0)), api.OK)
	}
	if len(longest) != api.MaxHost {
		t.Errorf("the longest host has %d bytes", len(longest))
	}
}

func TestO1Bad(t *testing.T) {
	check(t, of(slices.Repeat([]api.Rule{rule(api.ByName, "a", 0, 0)}, api.MaxRules+1)...), api.ErrMany)
	for _, k := range []int{math.MinInt, -1, 0, 5, 6, 1<<32 + 1, math.MaxInt} {
		check(t, of(rule(k, "a", 0, 0)), api.ErrKind)
	}
	for k := 1; k <= 4; k++ {
		check(t, of(rule(k, "", 0, 0)), api.ErrForm)
		check(t, of(rule(k, strings.Repeat("a", api.MaxText+1), 0, 0)), api.ErrForm)
		for _, n := range []int{math.MinInt, -1, 11, 12, math.MaxInt} {
			check(t, of(rule(k, "a", n, 0)), api.ErrRange)
		}
		for _, n := range []int{math.MinInt, -1, 41, 42, math.MaxInt} {
			check(t, of(rule(k, "a", 0, n)), api.ErrRange)
		}
	}
	for _, h := range []string{"A", "a.Com", "a..b", ".a", "a.", ".", "-a", "a-", "a_b", "a b", " a", "\xff", strings.Repeat("z", 64), strings.Repeat("aaaa.", 50) + "coma", strings.Repeat("a.", 200)[:api.MaxText-1]} {
		check(t, of(rule(api.ByDomain, h, 0, 0)), api.ErrForm)
	}
	for _, n := range []int{math.MinInt, -1, 11, 12, math.MaxInt} {
		p := of(rule(api.ByName, "a", 0, 0))
		p.Default = n
		check(t, p, api.ErrRange)
	}
	for i := range 11 {
		for _, n := range []int{math.MinInt, -1, 0, api.MaxCap + 1, math.MaxInt} {
			p := of(rule(api.ByName, "a", 0, 0))
			p.Caps[i] = n
			check(t, p, api.ErrRange)
		}
	}
}

// TestO1Order: of several errors the one that is named first, and of several rules the first one that is wrong.
func TestO1Order(t *testing.T) {
	good := rule(api.ByName, "a", 0, 0)
	noKind, noForm, noRange := rule(0, "", 11, 41), rule(api.ByDomain, "A", -1, 41), rule(api.ByName, "a", 0, 41)
	check(t, of(noKind), api.ErrKind)
	check(t, of(rule(5, "a", 11, 0)), api.ErrKind)
	check(t, of(noForm), api.ErrForm)
	check(t, of(rule(api.ByName, "", 0, 41)), api.ErrForm)
	check(t, of(good, noForm, noKind), api.ErrForm)
	check(t, of(good, noRange, noKind), api.ErrRange)
	check(t, of(noRange, noForm), api.ErrRange)
	check(t, of(good, noKind, noForm, noRange), api.ErrKind)
	many := of(slices.Repeat([]api.Rule{noKind}, api.MaxRules+1)...)
	check(t, many, api.ErrMany)
	for _, r := range []api.Rule{noKind, noForm} {
		p := api.Policy{Rules: []api.Rule{good, r}, Default: 11}
		check(t, p, Check(of(r)))
		p = of(r)
		p.Caps[10] = 0
		check(t, p, Check(of(r)))
	}
	check(t, api.Policy{}, api.ErrRange)
	check(t, api.Policy{Rules: many.Rules}, api.ErrMany)
}

func TestO2ByName(t *testing.T) {
	long := strings.Repeat("a", api.MaxText+9)
	for _, l := range []struct {
		text, name       string
		whole, head, end bool
	}{
		{"id", "id", true, true, true}, {"id", "ID", false, false, false}, {"ID", "id", false, false, false}, {"id", "Id", false, false, false},
		{"id", "idx", false, true, false}, {"id", "xid", false, false, true}, {"id", "idid", false, true, true}, {"id", "xidx", false, false, false},
		{"id", "i", false, false, false}, {"id", "", false, false, false}, {"id", "di", false, false, false}, {"id", " id", false, false, true},
		{"", "", true, true, true}, {"", "id", false, true, true}, {"aa", "aaa", false, true, true}, {"\xff", "\xff\xfe", false, true, false},
		{long, long, true, true, true}, {long, long + "b", false, true, false}, {long, "b" + long, false, false, true}, {long, long[1:], false, false, false},
		{"__Host-", "__Host-a", false, true, false}, {"__Host-", "__host-a", false, false, false},
	} {
		for _, d := range []string{"", "id", "x.id", "shop.com"} {
			c := api.Cookie{Name: l.name, Domain: d, Value: "id", Path: "/id"}
			names(t, rule(api.ByName, l.text, 0, 0), c, l.whole)
			names(t, rule(api.ByPrefix, l.text, 0, 0), c, l.head)
			names(t, rule(api.BySuffix, l.text, 0, 0), c, l.end)
		}
	}
}

func TestO2ByDomain(t *testing.T) {
	for _, l := range []struct {
		text, domain string
		want         bool
	}{
		{"ads.com", "ads.com", true}, {"ads.com", "x.ads.com", true}, {"ads.com", "y.x.ads.com", true}, {"ads.com", "xads.com", false},
		{"ads.com", "com", false}, {"ads.com", "", false}, {"ads.com", "ADS.com", false}, {"ADS.com", "ads.com", false}, {"ADS.com", "x.ADS.com", true},
		{"ads.com", "ads.com.net", false}, {"ads.com", "x.ads.com.", false}, {"com", "ads.com", true}, {"4", "1.2.3.4", false}, {"1.2.3.4", "1.2.3.4", true},
		{"3.4", "1.2.3.4", false}, {"3.4", "2.3.4", true}, {"", "", true}, {"", "a", false}, {"", "a.", true}, {"..", "...", true},
	} {
		for _, name := range []string{"", l.text, "x" + l.text, l.text + "x"} {
			for _, only := range []bool{false, true} {
				names(t, rule(api.ByDomain, l.text, 0, 0), api.Cookie{Name: name, Domain: l.domain, HostOnly: only}, l.want)
			}
		}
	}
}

// TestO2NoKind: a rule of no such kind names none, whatever its text.
func TestO2NoKind(t *testing.T) {
	for _, k := range []int{math.MinInt, -1, 0, 5, 6, 1<<32 + 1, math.MaxInt} {
		for _, text := range []string{"", "a", "a.com"} {
			names(t, rule(k, text, 0, 0), api.Cookie{Name: text, Domain: text}, false)
			kind(t, of(rule(k, text, 1, 1), rule(api.ByName, text, 2, 2)), api.Cookie{Name: text}, 2, 2)
		}
	}
}

// TestO2First: the first rule that names a cookie counts, and if there is none, the default.
func TestO2First(t *testing.T) {
	p := of(rule(api.ByPrefix, "ad_", 4, 9), rule(api.ByDomain, "ads.com", 2, 3), rule(api.ByName, "id", 0, 0), rule(api.BySuffix, "_x", 10, 40))
	p.Default = 1
	for _, l := range []struct {
		name, domain    string
		purpose, vendor int
	}{
		{"ad_1", "", 4, 9}, {"ad_1", "ads.com", 4, 9}, {"AD_1", "x.ads.com", 2, 3}, {"id", "ads.com", 2, 3}, {"id", "", 0, 0},
		{"ad_x", "", 4, 9}, {"no_x", "", 10, 40}, {"no_x", "ads.com", 2, 3}, {"none", "xads.com", 1, 0}, {"", "", 1, 0},
	} {
		kind(t, p, api.Cookie{Name: l.name, Domain: l.domain}, l.purpose, l.vendor)
	}
	kind(t, api.Policy{}, api.Cookie{}, 0, 0)
	kind(t, api.Policy{Default: 10}, api.Cookie{Name: "a"}, 10, 0)
}

// TestO2Whatever: a policy that is none tells what it tells all the same.
func TestO2Whatever(t *testing.T) {
	kind(t, api.Policy{Default: -7}, api.Cookie{}, -7, 0)
	kind(t, api.Policy{Default: math.MaxInt}, api.Cookie{}, math.MaxInt, 0)
	kind(t, api.Policy{Rules: []api.Rule{rule(api.ByPrefix, "", math.MinInt, 99)}}, api.Cookie{Name: "a"}, math.MinInt, 99)
	many := slices.Repeat([]api.Rule{rule(api.ByName, "a", 1, 1)}, 5*api.MaxRules)
	many = append(many, rule(api.ByName, "b", 2, 3))
	kind(t, api.Policy{Rules: many}, api.Cookie{Name: "b"}, 2, 3)
	lets(t, api.Policy{Default: -7}, api.Consent{}, api.Cookie{}, false)
	lets(t, api.Policy{Default: 11}, api.Consent{Purposes: [10]bool{true, true, true, true, true, true, true, true, true, true}}, api.Cookie{}, false)
	lets(t, api.Policy{Rules: []api.Rule{rule(api.ByName, "a", 0, 99)}}, api.Consent{Vendors: []int{99, 1}}, api.Cookie{Name: "a"}, true)
	lets(t, api.Policy{Rules: []api.Rule{rule(api.ByName, "a", 0, 98)}}, api.Consent{Vendors: []int{99, 1}}, api.Cookie{Name: "a"}, false)
}

// TestO2Lets: a cookie goes by the purpose and the vendor of its rule, both of them.
func TestO2Lets(t *testing.T) {
	g := api.Consent{Given: 1, Purposes: [10]bool{3: true, 9: true}, Vendors: []int{9, 40}}
	c := api.Cookie{Name: "a"}
	for purpose := range 11 {
		for vendor := range 41 {
			p := of(rule(api.ByName, "a", purpose, vendor))
			lets(t, p, g, c, (purpose == 0 || purpose == 4 || purpose == 10) && (vendor == 0 || vendor == 9 || vendor == 40))
			lets(t, p, api.Consent{}, c, purpose == 0 && vendor == 0)
		}
		byDefault := api.Policy{Rules: []api.Rule{rule(api.ByName, "b", 1, 1)}, Default: purpose, Caps: caps()}
		lets(t, byDefault, g, c, purpose == 0 || purpose == 4 || purpose == 10)
	}
	p := of(rule(api.ByName, "a", 1, 0), rule(api.ByName, "a", 4, 9))
	lets(t, p, g, c, false)
	slices.Reverse(p.Rules)
	lets(t, p, g, c, true)
}

// all cookies of short names and a few domains.
func all() []api.Cookie {
	var out []api.Cookie
	for _, name := range []string{"", "a", "b", "A", "aa", "ab", "ba", "bb", "aaa", "aab", "aba", "baa", "bba", "abb"} {
		for _, domain := range []string{"", "a", "b.a", "c.b.a", "ba", "b", "1.2.3.4", "3.4"} {
			out = append(out, api.Cookie{Name: name, Domain: domain})
		}
	}
	return out
}

// few rules of each kind, and of none.
func few() []api.Rule {
	var out []api.Rule
	for k := range 6 {
		for _, text := range []string{"", "a", "b", "aa", "ab", "b.a", "ba", "3.4"} {
			out = append(out, rule(k, text, len(out)%11, len(out)%41))
		}
	}
	return out
}

// named: which of the cookies a rule names, told by the rule's own words.
func named(r api.Rule, l []api.Cookie) []bool {
	var out []bool
	for _, c := range l {
		n, d, s := c.Name, c.Domain, r.Text
		is := false
		switch r.Kind {
		case 1:
			is = n == s
		case 2:
			is = len(n) >= len(s) && n[:len(s)] == s
		case 3:
			is = len(n) >= len(s) && n[len(n)-len(s):] == s
		case 4:
			below := len(d) > len(s) && d[len(d)-len(s):] == s && d[len(d)-len(s)-1] == '.'
			is = d == s || below && d != "1.2.3.4"
		}
		out = append(out, is)
	}
	return out
}

// TestO2Model: policies of some rules, held against what each rule names of itself.
func TestO2Model(t *testing.T) {
	r := rand.New(rand.NewSource(1))
	l, rules := all(), few()
	for range 3000 {
		p := api.Policy{Default: r.Intn(11)}
		for range r.Intn(6) {
			p.Rules = append(p.Rules, rules[r.Intn(len(rules))])
		}
		for i, c := range l {
			purpose, vendor := p.Default, 0
			for k := len(p.Rules) - 1; k >= 0; k-- {
				if named(p.Rules[k], l)[i] {
					purpose, vendor = p.Rules[k].Purpose, p.Rules[k].Vendor
				}
			}
			kind(t, p, c, purpose, vendor)
		}
	}
}

// TestO3: a rule behind one that names all that it names changes nothing.
func TestO3(t *testing.T) {
	l, rules := all(), few()
	between := rule(api.BySuffix, "b", 7, 7)
	pairs := 0
	for _, first := range rules {
		for _, second := range rules {
			if !covers(named(first, l), named(second, l)) {
				continue
			}
			pairs++
			second.Purpose, second.Vendor = 9, 39
			for _, c := range l {
				purpose, vendor := Kind(of(first, between), c)
				kind(t, of(first, between, second), c, purpose, vendor)
				kind(t, of(first, second, between), c, purpose, vendor)
			}
		}
	}
	if pairs < len(rules) {
		t.Errorf("only %d pairs", pairs)
	}
}

func covers(a, b []bool) bool {
	for i := range a {
		if b[i] && !a[i] {
			return false
		}
	}
	return true
}

// TestP2: what is handed in is only read, the spare room behind it too.
func TestP2(t *testing.T) {
	rules := []api.Rule{rule(api.ByName, "A", 1, 2), rule(api.ByDomain, "a.com", 3, 4), rule(api.ByName, "spare", 5, 6)}
	vendors := []int{4, 3, 2}
	before, ahead := slices.Clone(rules), slices.Clone(vendors)
	p, g := of(rules[:2]...), api.Consent{Purposes: [10]bool{2: true}, Vendors: vendors[:2]}
	for _, c := range []api.Cookie{{Name: "A"}, {Name: "spare"}, {Domain: "x.a.com"}} {
		Check(p)
		Kind(p, c)
		Lets(p, g, c)
	}
	if !slices.Equal(rules, before) || !slices.Equal(vendors, ahead) {
		t.Errorf("changed: %v %v", rules, vendors)
	}
	kind(t, p, api.Cookie{Name: "spare"}, 0, 0)
	lets(t, p, g, api.Cookie{Domain: "x.a.com"}, true)
	rules[1].Text = "b.com"
	kind(t, p, api.Cookie{Domain: "x.a.com"}, 0, 0)
	kind(t, p, api.Cookie{Domain: "x.b.com"}, 3, 4)
}

// TestP1P3: no call panics, and what was asked between changes no answer.
func TestP1P3(t *testing.T) {
	type answers struct {
		e               api.Errno
		purpose, vendor int
		lets            bool
	}
	ask := func(i int) answers {
		r := rand.New(rand.NewSource(int64(i)))
		text := func() string {
			return []string{"", "a", "a.b", "A", ".", "\xff", "b", strings.Repeat("a", 401)}[r.Intn(8)]
		}
		p := api.Policy{Default: r.Intn(14) - 2, Caps: caps()}
		for range r.Intn(15) {
			p.Rules = append(p.Rules, rule(r.Intn(7)-1, text(), r.Intn(14)-2, r.Intn(45)-2))
		}
		c := api.Cookie{Name: text(), Domain: text()}
		o := answers{e: Check(p), lets: Lets(p, api.Consent{Purposes: [10]bool{r.Intn(2) == 0}, Vendors: []int{r.Intn(40)}}, c)}
		o.purpose, o.vendor = Kind(p, c)
		return o
	}
	var first []answers
	for i := range 5000 {
		first = append(first, ask(i))
	}
	for i := len(first) - 1; i >= 0; i-- {
		if o := ask(i); o != first[i] {
			t.Errorf("first %v, then %v", first[i], o)
		}
	}
}

// TestP4: rules, names and domains of millions are answered as few and short ones are, and soon.
func TestP4(t *testing.T) {
	begun := time.Now()
	const n = 1 << 20
	long := strings.Repeat("a.", n)
	p := api.Policy{Default: 1}
	for k := range n {
		p.Rules = append(p.Rules, rule(k%6, "b", 2, 2))
	}
	p.Rules = append(p.Rules, rule(api.ByDomain, "a.a.", 3, 3), rule(api.BySuffix, long, 4, 4))
	check(t, p, api.ErrMany)
	c := api.Cookie{Name: "c" + long, Domain: "c"}
	kind(t, p, c, 4, 4)
	c.Domain = long
	kind(t, p, c, 3, 3)
	lets(t, p, api.Consent{}, c, false)
	check(t, of(rule(api.ByDomain, long, 0, 0)), api.ErrForm)
	kind(t, of(slices.Repeat([]api.Rule{rule(api.ByPrefix, "b", 1, 1)}, 100)...), c, 0, 0)
	if d := time.Since(begun); d > time.Minute {
		t.Errorf("it took %v", d)
	}
}
