package event

import (
	"fmt"
	"math"
	"math/rand"
	"reflect"
	"slices"
	"strings"
	"testing"
	"time"

	"gingersnap/api"
)

func check(t *testing.T, e api.Event, want api.Errno) {
	t.Helper()
	if got := Check(e); got != want {
		t.Errorf("Check(%.300v) is %d, must be %d", e, got, want)
	}
	if want != api.OK {
		write(t, e, "", want)
	}
}

func write(t *testing.T, e api.Event, text string, want api.Errno) {
	t.Helper()
	if got, w := Write(e); got != text || w != want {
		t.Errorf("Write(%.300v) is %q %d, must be %q %d", e, got, w, text, want)
	}
}

// same: are two events one, be lists without elements nil or not?
func same(a, b api.Event) bool {
	if len(a.Policy.Rules) == 0 && len(b.Policy.Rules) == 0 {
		a.Policy.Rules, b.Policy.Rules = nil, nil
	}
	return reflect.DeepEqual(a, b)
}

func read(t *testing.T, s string, e api.Event) {
	t.Helper()
	if got, w := Read(s); !same(got, e) || w != api.OK {
		t.Errorf("Read(%q) is %v %d, must be %v", s, got, w, e)
	}
}

func unread(t *testing.T, s string, want api.Errno) {
	t.Helper()
	if got, w := Read(s); !same(got, api.Event{}) || w != want {
		t.Errorf("Read(%.200q) is %v %d, must be %d", s, got, w, want)
	}
}

// fro: written and read.
func fro(t *testing.T, e api.Event, text string) {
	t.Helper()
	check(t, e, api.OK)
	write(t, e, text, api.OK)
	read(t, text, e)
}

// model writes an event of whatever kind, by the document's words.
func model(e api.Event) string {
	text := func(s string) string { return fmt.Sprintf("%d;%s", len(s), s) }
	flag := func(b bool) string { return map[bool]string{false: "0;", true: "1;"}[b] }
	f := e.From
	from := text(f.Host) + text(f.Path) + flag(f.Secure) + flag(f.Script) + flag(f.Abroad)
	out := fmt.Sprintf("%d;%d;", e.Kind, e.Now)
	switch e.Kind {
	case 1:
		return out + text(e.Text) + from
	case 2:
		return out + from
	case 3:
		return out + text(e.Text)
	case 4:
		out += fmt.Sprintf("%d;", len(e.Policy.Rules))
		for _, r := range e.Policy.Rules {
			out += fmt.Sprintf("%d;%s%d;%d;", r.Kind, text(r.Text), r.Purpose, r.Vendor)
		}
		out += fmt.Sprintf("%d;", e.Policy.Default)
		for _, n := range e.Policy.Caps {
			out += fmt.Sprintf("%d;", n)
		}
	}
	return out
}

// field of an event that some kinds name.
type field struct {
	name  string
	set   func(e *api.Event)
	kinds []int
}

func fieldsOf() []field {
	both, give, rules := []int{api.EvSet, api.EvAsk}, []int{api.EvSet, api.EvGive}, []int{api.EvRules}
	out := []field{
		{"Text", func(e *api.Event) { e.Text = "x" }, give},
		{"Host", func(e *api.Event) { e.From.Host = "x" }, both},
		{"Path", func(e *api.Event) { e.From.Path = "x" }, both},
		{"Secure", func(e *api.Event) { e.From.Secure = true }, both},
		{"Script", func(e *api.Event) { e.From.Script = true }, both},
		{"Abroad", func(e *api.Event) { e.From.Abroad = true }, both},
		{"Rules", func(e *api.Event) { e.Policy.Rules = make([]api.Rule, 1) }, rules},
		{"Default", func(e *api.Event) { e.Policy.Default = -1 }, rules},
	}
	for i := range 11 {
		out = append(out, field{"Caps", func(e *api.Event) { e.Policy.Caps[i] = 1 }, rules})
	}
	return out
}

func number(r *rand.Rand) int {
	return []int{0, 1, -1, 7, 10, -10, 40, math.MaxInt, math.MinInt, r.Int(), -r.Int(), r.Intn(13)}[r.Intn(12)]
}

func text(r *rand.Rand) string {
	b := make([]byte, []int{0, 1, 2, 3, 9, 10, 11}[r.Intn(7)])
	for i := range b {
		b[i] = "0123456789;-a\xff"[r.Intn(14)]
	}
	return string(b)
}

func random(r *rand.Rand) api.Event {
	e := api.Event{Kind: 1 + r.Intn(5), Now: number(r)}
	switch e.Kind {
	case api.EvSet, api.EvAsk:
		e.From = api.From{Host: text(r), Path: text(r), Secure: r.Intn(2) == 0, Script: r.Intn(2) == 0, Abroad: r.Intn(2) == 0}
	case api.EvRules:
		for range r.Intn(api.MaxRules + 1) {
			e.Policy.Rules = append(e.Policy.Rules, api.Rule{Kind: number(r), Text: text(r), Purpose: number(r), Vendor: number(r)})
		}
		e.Policy.Default = number(r)
		for i := range e.Policy.Caps {
			e.Policy.Caps[i] = number(r)
		}
	}
	if e.Kind == api.EvSet || e.Kind == api.EvGive {
		e.Text = text(r)
	}
	return e
}

var tooLong = strings.Repeat("x", api.MaxText+1)

func TestT1Kind(t *testing.T) {
	for kind := 1; kind <= 5; kind++ {
		check(t, api.Event{Kind: kind}, api.OK)
	}
	for _, kind := range []int{0, -1, 6, 7, math.MaxInt, math.MinInt} {
		check(t, api.Event{Kind: kind}, api.ErrKind)
		check(t, api.Event{Kind: kind, Text: tooLong}, api.ErrKind)
		check(t, api.Event{Kind: kind, From: api.From{Host: tooLong}, Policy: api.Policy{Default: 1}}, api.ErrKind)
	}
}

func TestT1Form(t *testing.T) {
	for kind := 1; kind <= 5; kind++ {
		for _, f := range fieldsOf() {
			e := api.Event{Kind: kind, Now: 5}
			f.set(&e)
			want := api.ErrForm
			if slices.Contains(f.kinds, kind) {
				want = api.OK
			}
			if got := Check(e); got != want {
				t.Errorf("Check of kind %d with a field %s is %d, must be %d", kind, f.name, got, want)
			}
		}
		check(t, api.Event{Kind: kind, Policy: api.Policy{Rules: []api.Rule{}}}, api.OK)
	}
}

func TestT1FormFirst(t *testing.T) {
	check(t, api.Event{Kind: api.EvTick, Text: tooLong}, api.ErrForm)
	check(t, api.Event{Kind: api.EvAsk, Text: tooLong}, api.ErrForm)
	check(t, api.Event{Kind: api.EvGive, From: api.From{Path: tooLong}}, api.ErrForm)
	check(t, api.Event{Kind: api.EvGive, Text: tooLong, From: api.From{Abroad: true}}, api.ErrForm)
	check(t, api.Event{Kind: api.EvSet, Text: tooLong, Policy: api.Policy{Rules: make([]api.Rule, 13)}}, api.ErrForm)
	check(t, api.Event{Kind: api.EvRules, Text: "x", Policy: api.Policy{Rules: make([]api.Rule, 13)}}, api.ErrForm)
}

func TestT1Many(t *testing.T) {
	for n, want := range map[int]api.Errno{400: api.OK, 401: api.ErrMany, 5000: api.ErrMany} {
		s := strings.Repeat("y", n)
		check(t, api.Event{Kind: api.EvSet, Text: s}, want)
		check(t, api.Event{Kind: api.EvGive, Text: s}, want)
		for _, kind := range []int{api.EvSet, api.EvAsk} {
			check(t, api.Event{Kind: kind, From: api.From{Host: s}}, want)
			check(t, api.Event{Kind: kind, From: api.From{Path: s}}, want)
		}
		for i := range api.MaxRules {
			e := api.Event{Kind: api.EvRules, Policy: api.Policy{Rules: make([]api.Rule, api.MaxRules)}}
			e.Policy.Rules[i].Text = s
			check(t, e, want)
		}
	}
	for n := range 40 {
		want := api.OK
		if n > 12 {
			want = api.ErrMany
		}
		check(t, api.Event{Kind: api.EvRules, Policy: api.Policy{Rules: make([]api.Rule, n)}}, want)
	}
}

// TestT1Else: an event is checked for its form alone.
func TestT1Else(t *testing.T) {
	for _, n := range []int{math.MinInt, -1, 0, 1, math.MaxInt} {
		p := api.Policy{Rules: []api.Rule{{Kind: n, Text: "\x00\xff", Purpose: n, Vendor: n}}, Default: n, Caps: [11]int{n, n}}
		check(t, api.Event{Kind: api.EvRules, Now: n, Policy: p}, api.OK)
		check(t, api.Event{Kind: api.EvSet, Now: n, Text: "no header", From: api.From{Host: "..", Path: "no path"}}, api.OK)
	}
}

func TestT2(t *testing.T) {
	fro(t, api.Event{Kind: api.EvTick}, "5;0;")
	fro(t, api.Event{Kind: api.EvTick, Now: -12}, "5;-12;")
	fro(t, api.Event{Kind: api.EvTick, Now: math.MaxInt}, "5;9223372036854775807;")
	fro(t, api.Event{Kind: api.EvTick, Now: math.MinInt}, "5;-9223372036854775808;")
	fro(t, api.Event{Kind: api.EvGive, Now: 10}, "3;10;0;")
	fro(t, api.Event{Kind: api.EvGive, Text: "0;1\x00\xff\n;"}, "3;0;7;0;1\x00\xff\n;")
	fro(t, api.Event{Kind: api.EvGive, Text: tooLong[:400]}, "3;0;400;"+tooLong[:400])
	fro(t, api.Event{Kind: api.EvAsk, Now: 1}, "2;1;0;0;0;0;0;")
	fro(t, api.Event{Kind: api.EvAsk, Now: 1, From: api.From{Host: "a.shop.com", Path: "/cart/x", Secure: true}}, "2;1;10;a.shop.com7;/cart/x1;0;0;")
	fro(t, api.Event{Kind: api.EvAsk, From: api.From{Script: true}}, "2;0;0;0;0;1;0;")
	fro(t, api.Event{Kind: api.EvAsk, From: api.From{Abroad: true}}, "2;0;0;0;0;0;1;")
	fro(t, api.Event{Kind: api.EvSet, Now: 1000, Text: "id=7; secure", From: api.From{Host: "h", Path: "/", Script: true, Abroad: true}}, "1;1000;12;id=7; secure1;h1;/0;1;1;")
	fro(t, api.Event{Kind: api.EvRules}, "4;0;0;0;0;0;0;0;0;0;0;0;0;0;0;")
	p := api.Policy{Rules: []api.Rule{{Kind: 1, Text: "id"}, {Kind: -4, Text: ";", Purpose: 10, Vendor: 40}}, Default: 5, Caps: [11]int{1, 2, 3, 4, 5, 6, 7, 8, 9, 10, -11}}
	fro(t, api.Event{Kind: api.EvRules, Now: 6, Policy: p}, "4;6;2;1;2;id0;0;-4;1;;10;40;5;1;2;3;4;5;6;7;8;9;10;-11;")
}

func TestT2Errors(t *testing.T) {
	write(t, api.Event{}, "", api.ErrKind)
	write(t, api.Event{Kind: api.EvTick, Text: "x"}, "", api.ErrForm)
	write(t, api.Event{Kind: api.EvGive, Text: tooLong}, "", api.ErrMany)
}

// TestT2Longest: what Check lets through may be written.
func TestT2Longest(t *testing.T) {
	n := math.MinInt
	p := api.Policy{Rules: slices.Repeat([]api.Rule{{Kind: n, Text: tooLong[:400], Purpose: n, Vendor: n}}, 12), Default: n}
	for i := range p.Caps {
		p.Caps[i] = n
	}
	for _, e := range []api.Event{
		{Kind: api.EvRules, Now: n, Policy: p},
		{Kind: api.EvSet, Now: n, Text: tooLong[:400], From: api.From{Host: tooLong[:400], Path: tooLong[:400]}},
	} {
		s := model(e)
		if len(s) > api.MaxEvent {
			t.Errorf("%d bytes are more than an event may have", len(s))
		}
		fro(t, e, s)
	}
}

func TestT3Any(t *testing.T) {
	r := rand.New(rand.NewSource(1))
	for range 5000 {
		e := random(r)
		fro(t, e, model(e))
	}
}

func TestT3Numbers(t *testing.T) {
	for _, s := range []string{
		"", ";", ";;", "5", "5;", "5;7", "5;;", "5;-;", "5;07;", "5;00;", "5;-0;", "5;-07;", "5;+7;", "5; 7;", "5;7 ;", "5;7;;", "5;7;x", "5;7;5;7;", "05;7;", "+5;7;",
		"5;1_0;", "5;0x7;", "5;7.;", "5;1e3;", "5;--1;", "5;9223372036854775808;", "5;-9223372036854775809;", "5;99999999999999999999999999999;", "5;\xd9\xa3;", "5:7:", "5;7:", "5\x00;7;",
		"0;0;", "6;0;", "-1;0;", "-5;0;", "9223372036854775807;0;",
	} {
		unread(t, s, api.ErrForm)
	}
}

func TestT3Texts(t *testing.T) {
	read(t, "3;0;0;", api.Event{Kind: api.EvGive})
	read(t, "3;0;1;;", api.Event{Kind: api.EvGive, Text: ";"})
	for _, s := range []string{
		"3;0;", "3;0;1;", "3;0;0;a", "3;0;1;ab", "3;0;2;a", "3;0;3;a", "3;0;4;a", "3;0;01;a", "3;0;-1;", "3;0;-1;a", "3;0;+1;a", "3;0;9223372036854775807;a", "3;0;-9223372036854775808;a",
		"3;0;401;" + tooLong, "3;0;400;" + tooLong, "3;0;401;" + tooLong[:400], "1;0;401;" + tooLong + "0;0;0;0;0;", "2;0;401;" + tooLong + "0;0;0;0;", "2;0;0;401;" + tooLong + "0;0;0;",
	} {
		unread(t, s, api.ErrForm)
	}
}

func TestT3Flags(t *testing.T) {
	read(t, "2;0;0;0;1;1;1;", api.Event{Kind: api.EvAsk, From: api.From{Secure: true, Script: true, Abroad: true}})
	for _, s := range []string{
		"2;0;0;0;2;0;0;", "2;0;0;0;0;2;0;", "2;0;0;0;0;0;2;", "2;0;0;0;-1;0;0;", "2;0;0;0;01;0;0;", "2;0;0;0;0;00;0;", "2;0;0;0;0;0;", "2;0;0;0;0;0;0;0;", "2;0;0;0;0;0;0", "2;0;0;0;1;0;true;", "2;0;0;0;;0;0;",
	} {
		unread(t, s, api.ErrForm)
	}
}

func TestT3Rules(t *testing.T) {
	const rule, rest = "1;0;0;0;", "0;0;0;0;0;0;0;0;0;0;0;0;"
	for n := range 16 {
		s := fmt.Sprintf("4;0;%d;", n) + strings.Repeat(rule, n) + rest
		if n <= api.MaxRules {
			read(t, s, api.Event{Kind: api.EvRules, Policy: api.Policy{Rules: slices.Repeat([]api.Rule{{Kind: 1}}, n)}})
		} else {
			unread(t, s, api.ErrForm)
		}
	}
	for _, s := range []string{
		"4;0;", "4;0;0;", "4;0;1;" + rest, "4;0;0;" + rule + rest, "4;0;2;" + rule + rest, "4;0;-1;" + rest, "4;0;00;" + rest, "4;0;0;" + rest + "0;", "4;0;0;" + rest[2:],
		"4;0;9223372036854775807;" + rest, "4;0;-9223372036854775808;" + rest, "4;0;1;1;401;" + tooLong + "0;0;" + rest, "4;0;1;1;1;0;0;" + rest,
	} {
		unread(t, s, api.ErrForm)
	}
}

func TestT3Long(t *testing.T) {
	for _, s := range []string{"5", "5;0;", ";", "\x00"} {
		s = strings.Repeat(s, 20001)
		unread(t, s[:api.MaxEvent], api.ErrForm)
		unread(t, s[:api.MaxEvent+1], api.ErrMany)
	}
	unread(t, "5;7;"+strings.Repeat("x", api.MaxEvent-4), api.ErrForm)
	unread(t, "5;7;"+strings.Repeat("x", api.MaxEvent-3), api.ErrMany)
	unread(t, "5;"+strings.Repeat("7", api.MaxEvent-3)+";", api.ErrForm)
	unread(t, "5;"+strings.Repeat("0", api.MaxEvent-3)+";", api.ErrForm)
}

// TestT3Near: what is left of a text, or was changed in it, is read just if it is what would be written.
func TestT3Near(t *testing.T) {
	r := rand.New(rand.NewSource(2))
	got := 0
	for range 3000 {
		s := model(random(r))
		for k := range len(s) {
			unread(t, s[:k], api.ErrForm)
		}
		unread(t, s+";", api.ErrForm)
		for range 30 {
			b := []byte(s)
			b[r.Intn(len(b))] = "0123456789;-+ \x00"[r.Intn(15)]
			near, w := Read(string(b))
			switch {
			case w == api.OK && model(near) == string(b) && Check(near) == api.OK:
				got++
			case w != api.ErrForm || !same(near, api.Event{}):
				t.Errorf("Read(%q) is %v %d", b, near, w)
			}
		}
	}
	if got < 1000 {
		t.Errorf("just %d texts were read", got)
	}
}

func TestT4(t *testing.T) {
	r := rand.New(rand.NewSource(3))
	all := map[string]api.Event{}
	for range 50000 {
		e := random(r)
		s, _ := Write(e)
		if was, ok := all[s]; ok && !same(was, e) {
			t.Errorf("%v and %v are both %q", was, e, s)
		}
		all[s] = e
	}
}

func TestP1(t *testing.T) {
	r := rand.New(rand.NewSource(4))
	for range 200000 {
		b := []byte(fmt.Sprintf("%d;", r.Intn(7)))
		for range r.Intn(30) {
			b = append(b, ";;;;0123456789-+a"[r.Intn(17)])
		}
		if e, w := Read(string(b)); w != api.OK && !same(e, api.Event{}) {
			t.Errorf("Read(%q) is %v %d", b, e, w)
		}
	}
}

func TestP2(t *testing.T) {
	rules := []api.Rule{{Kind: 1, Text: "a"}, {Kind: 2, Text: "b"}, {Kind: 3, Text: "spare"}}
	before := slices.Clone(rules)
	e := api.Event{Kind: api.EvRules, Policy: api.Policy{Rules: rules[:2]}}
	Check(e)
	s, _ := Write(e)
	if !slices.Equal(rules, before) {
		t.Errorf("the rules were %v, and are %v", before, rules)
	}
	one, _ := Read(s)
	two, _ := Read(s)
	one.Policy.Rules[0].Text, rules[1].Text = "c", "d"
	if !slices.Equal(two.Policy.Rules, before[:2]) {
		t.Errorf("an answer of Read became %v by a change of another one", two.Policy.Rules)
	}
	read(t, s, api.Event{Kind: api.EvRules, Policy: api.Policy{Rules: before[:2]}})
}

func TestP3(t *testing.T) {
	var first []string
	for range 2 {
		r := rand.New(rand.NewSource(5))
		var all []string
		for range 2000 {
			e := random(r)
			s, w := Write(e)
			again, x := Read(s[:r.Intn(len(s)+1)])
			all = append(all, fmt.Sprint(Check(e), s, w, again, x))
		}
		if first != nil && !slices.Equal(first, all) {
			t.Error("the same was asked, and the answers differ")
		}
		first = all
	}
}

func TestP4(t *testing.T) {
	began := time.Now()
	huge := strings.Repeat("0123456789;", 20_000_000)
	for range 1000 {
		unread(t, huge, api.ErrMany)
		check(t, api.Event{Kind: api.EvGive, Text: huge}, api.ErrMany)
		check(t, api.Event{Kind: api.EvTick, Text: huge}, api.ErrForm)
		check(t, api.Event{Kind: api.EvAsk, From: api.From{Path: huge}}, api.ErrMany)
	}
	check(t, api.Event{Kind: api.EvRules, Policy: api.Policy{Rules: make([]api.Rule, 10_000_000)}}, api.ErrMany)
	if took := time.Since(began); took > time.Minute {
		t.Errorf("it took %v", took)
	}
}
