package jar

import (
	"math"
	"math/rand"
	"reflect"
	"slices"
	"strings"
	"testing"
	"time"

	"gingersnap/api"
)

const now = 1000

// noMoments: numbers that are no moments.
var noMoments = []int{math.MinInt, api.FirstMoment - 1, api.LastMoment + 1, math.MaxInt}

// made: a cookie that lasts for long.
func made(name, domain string, no, used int) api.Cookie {
	return api.Cookie{Name: name, Value: "v", Domain: domain, Path: "/", Expiry: 9000, Created: used, Used: used, No: no}
}

// jarOf cookies, which all others follow.
func jarOf(l ...api.Cookie) api.Jar {
	j := api.Jar{Cookies: l}
	for _, c := range l {
		j.Next = max(j.Next, c.No+1)
	}
	return j
}

// full: a jar of twelve cookies, four of each of three domains.
func full() api.Jar {
	var l []api.Cookie
	for i := range 12 {
		l = append(l, made(string(rune('a'+i)), string(rune('x'+i%3)), i, 100+i))
	}
	return jarOf(l...)
}

func same(a, b api.Jar) bool { return a.Next == b.Next && slices.Equal(a.Cookies, b.Cookies) }

func checks(t *testing.T, j api.Jar, want api.Errno) {
	t.Helper()
	if e := Check(j); e != want {
		t.Errorf("Check(%v) is %d, must be %d", j, e, want)
	}
}

func puts(t *testing.T, j api.Jar, c api.Cookie, n int, want api.Jar, f api.Errno) {
	t.Helper()
	if got, e := Put(j, c, n); !same(got, want) || e != f {
		t.Errorf("Put(%v, %v, %d) is\n%v %d, must be\n%v %d", j, c, n, got, e, want, f)
	}
}

func gets(t *testing.T, j api.Jar, f api.From, n int, want api.Jar, along []api.Cookie, g api.Errno) {
	t.Helper()
	if got, l, e := Get(j, f, n); !same(got, want) || !slices.Equal(l, along) || e != g {
		t.Errorf("Get(%v, %v, %d) is\n%v %v %d, must be\n%v %v %d", j, f, n, got, l, e, want, along, g)
	}
}

// fails: all calls answer an error, and nothing else.
func fails(t *testing.T, j api.Jar, f api.Errno) {
	t.Helper()
	checks(t, j, f)
	puts(t, j, made("new", "new", 0, now), now, api.Jar{}, f)
	gets(t, j, api.From{Host: "new", Path: "/"}, now, api.Jar{}, nil, f)
}

func TestQ1Good(t *testing.T) {
	a := made("a", "x", 0, 5)
	name, domain, path := a, a, a
	name.Name, name.No = "b", 1
	domain.Domain, domain.No = "y", 2
	path.Path, path.No = "/p", 3
	for _, j := range []api.Jar{
		{}, {Cookies: []api.Cookie{}}, {Next: 1}, {Next: api.MaxNo}, full(), jarOf(a), jarOf(a, name, domain, path), jarOf(path, domain, a, name),
		{Cookies: []api.Cookie{a, path}, Next: api.MaxNo},
		jarOf(api.Cookie{}), jarOf(api.Cookie{Expiry: math.MinInt, Site: -7}), jarOf(api.Cookie{Expiry: math.MaxInt, Path: "\xff", Name: "\x00"}),
		jarOf(api.Cookie{Created: api.FirstMoment, Used: api.LastMoment}), jarOf(api.Cookie{Created: api.LastMoment, Used: api.FirstMoment}),
		jarOf(api.Cookie{No: api.MaxNo - 1}), jarOf(api.Cookie{Name: "ab", Domain: "c"}, api.Cookie{Name: "a", Domain: "bc", No: 1}, api.Cookie{Name: "A", Domain: "bc", No: 2}),
		jarOf(api.Cookie{Domain: "x"}, api.Cookie{Path: "x", No: 1}, api.Cookie{Name: "x", No: 2}),
	} {
		checks(t, j, api.OK)
	}
}

func TestQ1Many(t *testing.T) {
	j := full()
	fails(t, jarOf(append(j.Cookies, made("z", "z", 12, 5))...), api.ErrMany)
	fails(t, api.Jar{Cookies: make([]api.Cookie, 13)}, api.ErrMany)
	l := append(slices.Clone(j.Cookies[:9]), made("m", "x", 20, 5), made("n", "x", 21, 5))
	for range l {
		l = append(l[1:], l[0]) // wherever the five are
		fails(t, jarOf(l...), api.ErrMany)
		i := slices.IndexFunc(l, func(c api.Cookie) bool { return c.Domain == "x" })
		less := slices.Clone(l)
		less[i].Domain = "X"
		checks(t, jarOf(less...), api.OK)
	}
}

func TestQ1Moments(t *testing.T) {
	for i := range 12 {
		for _, n := range noMoments {
			j := full()
			j.Cookies[i].Created = n
			fails(t, j, api.ErrRange)
			j = full()
			j.Cookies[i].Used = n
			fails(t, j, api.ErrRange)
		}
	}
}

func TestQ1Numbers(t *testing.T) {
	for i := range 12 {
		for _, n := range []int{-1, 12, 13, math.MinInt, math.MaxInt} {
			j := full()
			j.Cookies[i].No = n
			fails(t, j, api.ErrState)
		}
		j := full()
		j.Next = i
		fails(t, j, api.ErrState)
		j.Next = -1
		fails(t, j, api.ErrState)
	}
	for _, n := range []int{-1, math.MinInt, api.MaxNo + 1, math.MaxInt} {
		fails(t, api.Jar{Next: n}, api.ErrRange)
	}
	for _, n := range []int{api.MaxNo + 1, math.MaxInt} {
		j := full()
		j.Next = n
		fails(t, j, api.ErrRange)
		j.Cookies[3].No = api.MaxNo
		fails(t, j, api.ErrRange)
	}
}

func TestQ1Twice(t *testing.T) {
	for i := range 12 {
		for k := range i {
			j := full()
			j.Cookies[i].No = j.Cookies[k].No
			fails(t, j, api.ErrTwice)
			j = full()
			j.Cookies[i], j.Cookies[k] = j.Cookies[k], j.Cookies[i] // numbers need not rise
			checks(t, j, api.OK)
			twin := api.Cookie{Name: j.Cookies[k].Name, Domain: j.Cookies[k].Domain, Path: "/", HostOnly: true, Secure: true, Value: "other", No: j.Cookies[i].No}
			j.Cookies[i] = twin
			fails(t, j, api.ErrTwice)
		}
	}
}

// TestQ1Order: the first cookie of which something is wrong tells, and of that one the error that is named first.
func TestQ1Order(t *testing.T) {
	early, low, twin, more := made("e", "e", 4, api.FirstMoment-1), made("l", "l", -1, 5), made("a", "x", 5, 5), made("m", "x", 6, 5)
	four := []api.Cookie{made("a", "x", 0, 5), made("b", "x", 1, 5), made("c", "x", 2, 5), made("d", "x", 3, 5)}
	wrong := []api.Cookie{early, low, twin, more}
	errors := []api.Errno{api.ErrRange, api.ErrState, api.ErrTwice, api.ErrMany}
	for i := range wrong {
		for k := range wrong {
			fails(t, api.Jar{Cookies: append(slices.Clone(four), wrong[i], wrong[k]), Next: api.MaxNo + 1}, errors[i])
		}
	}
	all := made("a", "x", -1, api.LastMoment+1)
	j := api.Jar{Cookies: append(slices.Clone(four), all), Next: 9}
	fails(t, j, api.ErrRange)
	j.Cookies[4].Created, j.Cookies[4].Used = 5, 5
	fails(t, j, api.ErrState)
	j.Cookies[4].No = 9
	fails(t, j, api.ErrState)
	j.Cookies[4].No = 8
	fails(t, j, api.ErrTwice)
	j.Cookies[4].Name = "m"
	fails(t, j, api.ErrMany)
	j.Cookies[4].No = 3
	fails(t, j, api.ErrTwice)
	j.Cookies[4].No, j.Cookies[4].Domain = 8, "y"
	fails(t, api.Jar{Cookies: j.Cookies, Next: api.MaxNo + 1}, api.ErrRange)
	fails(t, api.Jar{Cookies: slices.Repeat([]api.Cookie{all}, 13), Next: -1}, api.ErrMany)
	checks(t, j, api.OK)
}

func TestQ2End(t *testing.T) {
	c := made("a", "x", 77, now)
	first := c
	first.No = 0
	puts(t, api.Jar{}, c, now, jarOf(first), api.OK)
	first.No = 9
	puts(t, api.Jar{Next: 9}, c, now, jarOf(first), api.OK)
	puts(t, api.Jar{Next: api.MaxNo - 1}, made("a", "x", -1, now), now, jarOf(made("a", "x", api.MaxNo-1, now)), api.OK)
	b, y, p := made("b", "x", 3, 6), made("a", "y", 5, 4), made("a", "x", 2, 5)
	p.Path = "/p"
	first.No = 6
	puts(t, jarOf(b, y, p), c, now, jarOf(b, y, p, first), api.OK)
	full := api.Cookie{Name: "n", Value: "v", Domain: "d", Path: "/p", HostOnly: true, Secure: true, HttpOnly: true, Lasting: true, Site: 9, Expiry: 1001, Created: api.FirstMoment, Used: api.LastMoment, No: 6}
	in := full
	in.No = math.MinInt
	puts(t, jarOf(b, y, p), in, now, jarOf(b, y, p, full), api.OK)
	for _, n := range []int{api.FirstMoment, -1, 0, api.LastMoment} {
		c := api.Cookie{Expiry: math.MaxInt, Created: n, Used: n}
		puts(t, api.Jar{}, c, n, jarOf(c), api.OK)
	}
}

// TestQ2Place: a cookie stands in the place of the same one, with its Created and its No.
func TestQ2Place(t *testing.T) {
	for i := range 12 {
		j := full()
		old := j.Cookies[i]
		c := api.Cookie{Name: old.Name, Value: "w", Domain: old.Domain, Path: "/", HostOnly: true, Secure: true, HttpOnly: true, Lasting: true, Site: 3, Expiry: 2000, Created: 900, Used: 950, No: 88}
		want := full()
		want.Cookies[i] = c
		want.Cookies[i].Created, want.Cookies[i].No = 100+i, i
		puts(t, j, c, now, want, api.OK)
		c.Used = api.FirstMoment // though it was used ahead of all others it stays, since none is too many
		want.Cookies[i].Used = api.FirstMoment
		puts(t, j, c, now, want, api.OK)
	}
}

func TestQ2Dead(t *testing.T) {
	a, b, c := made("a", "x", 0, 5), made("b", "x", 1, 6), made("c", "y", 2, 7)
	b.Expiry = now
	d := made("d", "y", 3, 8)
	puts(t, jarOf(a, b, c), d, now-1, jarOf(a, b, c, d), api.OK)
	puts(t, jarOf(a, b, c), d, now, jarOf(a, c, d), api.OK)
	puts(t, jarOf(a, b, c), d, now+1, jarOf(a, c, d), api.OK)
	puts(t, jarOf(b), d, now, api.Jar{Cookies: []api.Cookie{made("d", "y", 2, 8)}, Next: 3}, api.OK)
	again := made("b", "x", 9, 8)
	again.Created = 700
	want := again
	want.No = 3
	puts(t, jarOf(a, b, c), again, now, jarOf(a, c, want), api.OK) // the same one was gone before
	want.Created, want.No = 6, 1
	puts(t, jarOf(a, b, c), again, now-1, jarOf(a, want, c), api.OK)
}

// TestQ2DeadItself: a cookie that is not live goes, and with it the one in whose place it stood.
func TestQ2DeadItself(t *testing.T) {
	a, b, c := made("a", "x", 0, 5), made("b", "x", 1, 6), made("c", "y", 2, 7)
	for _, expiry := range []int{math.MinInt, api.FirstMoment, now - 1, now} {
		gone := made("b", "x", 0, now)
		gone.Expiry = expiry
		puts(t, jarOf(a, b, c), gone, now, api.Jar{Cookies: []api.Cookie{a, c}, Next: 3}, api.OK)
		puts(t, jarOf(b), gone, now, api.Jar{Next: 2}, api.OK)
		gone.Name = "d" // it had its No, though it goes
		puts(t, jarOf(a, b, c), gone, now, api.Jar{Cookies: []api.Cookie{a, b, c}, Next: 4}, api.OK)
		puts(t, api.Jar{}, gone, now, api.Jar{Next: 1}, api.OK)
		gone.Domain, gone.Used = "z", api.LastMoment
		want := full()
		want.Next++
		puts(t, full(), gone, now, want, api.OK) // and makes no other one go
		gone.Domain, gone.Name = "x", "new"
		puts(t, full(), gone, now, want, api.OK)
	}
}

// four cookies of one domain, used at these moments, and two of other ones.
func four(used [4]int) []api.Cookie {
	l := []api.Cookie{made("o", "X", 7, 1)}
	for i, n := range used {
		l = append(l, made(string(rune('a'+i)), "x", []int{5, 3, 6, 4}[i], n))
	}
	return append(l, made("p", "y", 2, 1))
}

func TestQ2Domain(t *testing.T) {
	for _, x := range []struct {
		used [4]int
		own  int
		goes int // the place of the one that goes
	}{
		{[4]int{10, 20, 30, 40}, 50, 1},
		{[4]int{40, 10, 30, 20}, 50, 2},
		{[4]int{40, 20, 10, 30}, 50, 3},
		{[4]int{40, 20, 30, 10}, 50, 4},
		{[4]int{10, 20, 30, 40}, 9, 6},
		{[4]int{10, 20, 30, 40}, 10, 1},
		{[4]int{10, 10, 10, 10}, 10, 2},
		{[4]int{10, 20, 10, 10}, 10, 4},
		{[4]int{10, 20, 10, 20}, 11, 1},
		{[4]int{20, 20, 10, 20}, 10, 3},
		{[4]int{20, 20, 20, 20}, 19, 6},
		{[4]int{-10, -20, -30, -40}, -39, 4},
		{[4]int{api.FirstMoment, api.LastMoment, 0, 0}, api.FirstMoment, 1},
	} {
		l := append(four(x.used), made("new", "x", 8, x.own))
		j := jarOf(l[:6]...)
		want := api.Jar{Cookies: slices.Delete(slices.Clone(l), x.goes, x.goes+1), Next: 9}
		puts(t, j, made("new", "x", 0, x.own), now, want, api.OK)
	}
	l := four([4]int{10, 20, 30, 40})
	l[1].Expiry = now // what is dead goes first, and then none is too many
	want := api.Jar{Cookies: append(slices.Delete(slices.Clone(l), 1, 2), made("new", "x", 8, 5)), Next: 9}
	puts(t, jarOf(l...), made("new", "x", 0, 5), now, want, api.OK)
}

func TestQ2All(t *testing.T) {
	for i := range 12 {
		j := full()
		j.Cookies[i].Used = 99
		want := api.Jar{Cookies: append(slices.Delete(slices.Clone(j.Cookies), i, i+1), made("new", "new", 12, now)), Next: 13}
		puts(t, j, made("new", "new", 0, now), now, want, api.OK)
		old := made("new", "new", 0, 98) // the one that is put may go
		puts(t, j, old, now, api.Jar{Cookies: j.Cookies, Next: 13}, api.OK)
		old.Used = 99
		want.Cookies[11] = made("new", "new", 12, 98)
		want.Cookies[11].Used = 99
		puts(t, j, old, now, want, api.OK) // of those alike the one of the lesser No goes
	}
	j := full()
	for i := range j.Cookies {
		j.Cookies[i].Used, j.Cookies[i].No = 500, (i+5)%12
	}
	want := api.Jar{Cookies: append(slices.Delete(slices.Clone(j.Cookies), 7, 8), made("new", "new", 12, 500)), Next: 13}
	puts(t, j, made("new", "new", 0, 500), now, want, api.OK)
	j.Cookies[0].Used = 10 // of its domain one goes that was used later, and then none is too many
	want = api.Jar{Cookies: append(slices.Delete(slices.Clone(j.Cookies), 7, 8), made("new", "y", 12, 600)), Next: 13}
	puts(t, j, made("new", "y", 0, 600), now, want, api.OK)
}

func TestQ2Errors(t *testing.T) {
	good := made("a", "x", 0, now)
	for _, j := range []api.Jar{{}, full(), {Next: api.MaxNo}} {
		for _, n := range noMoments {
			puts(t, j, good, n, api.Jar{}, api.ErrRange)
			c := good
			c.Created = n
			puts(t, j, c, now, api.Jar{}, api.ErrRange)
			c.Expiry = now // though it would go at once
			puts(t, j, c, now, api.Jar{}, api.ErrRange)
			c = good
			c.Used = n
			puts(t, j, c, now, api.Jar{}, api.ErrRange)
		}
	}
	last := full()
	last.Next = api.MaxNo
	puts(t, last, good, now, api.Jar{}, api.ErrMany) // though the same one is there
	puts(t, api.Jar{Next: api.MaxNo}, good, 9999, api.Jar{}, api.ErrMany)
	for _, n := range noMoments {
		bad := jarOf(made("a", "x", 0, 5), made("a", "x", 1, 5))
		puts(t, bad, good, n, api.Jar{}, api.ErrTwice)
		bad.Cookies[1].Name, bad.Cookies[1].No = "b", 7
		puts(t, bad, good, n, api.Jar{}, api.ErrState)
	}
}

func TestQ3(t *testing.T) {
	root, deep, deeper, other := made("r", "shop.com", 4, 5), made("d", "shop.com", 3, 6), made("e", "www.shop.com", 2, 7), made("o", "other.com", 1, 8)
	deep.Path, deeper.Path = "/cart", "/cart"
	old := made("f", "shop.com", 0, 5)
	old.Secure, old.Site, old.HttpOnly = true, api.SiteNone, true
	j := jarOf(root, other, old, deeper, deep)
	at := func(n int, places ...int) (api.Jar, []api.Cookie) {
		k := api.Jar{Cookies: slices.Clone(j.Cookies), Next: j.Next}
		var along []api.Cookie
		for _, i := range places {
			k.Cookies[i].Used = n
			along = append(along, k.Cookies[i])
		}
		return k, along
	}
	asks := func(f api.From, n int, places ...int) {
		t.Helper()
		k, along := at(n, places...)
		gets(t, j, f, n, k, along, api.OK)
	}
	asks(api.From{Host: "www.shop.com", Path: "/cart/x"}, now, 4, 3, 0)
	asks(api.From{Host: "www.shop.com", Path: "/cart/x", Secure: true}, now, 4, 3, 2, 0)
	asks(api.From{Host: "www.shop.com", Path: "/cart/x", Secure: true, Script: true}, now, 4, 3, 0)
	asks(api.From{Host: "www.shop.com", Path: "/cart/x", Secure: true, Abroad: true}, now, 2)
	asks(api.From{Host: "shop.com", Path: "/cart"}, 8999, 4, 0)
	asks(api.From{Host: "shop.com", Path: "/carts"}, now, 0)
	asks(api.From{Host: "shop.com", Path: "/"}, 3, 0) // it was used later, and is used now
	asks(api.From{Host: "other.com", Path: "/"}, api.FirstMoment, 1)
	asks(api.From{Host: "none.com", Path: "/"}, now)
	asks(api.From{Host: "com", Path: "/"}, now)
	asks(api.From{Host: "shop.com", Path: "/"}, 9000) // none is live, and none goes
	asks(api.From{Host: "shop.com", Path: "/"}, api.LastMoment)
	gets(t, api.Jar{}, api.From{Host: "a", Path: "/"}, now, api.Jar{}, nil, api.OK)
	gets(t, api.Jar{Next: api.MaxNo}, api.From{Host: "a", Path: "/"}, now, api.Jar{Next: api.MaxNo}, nil, api.OK)
}

// TestQ3Dead: of cookies that are dead some are there still, and none is sent.
func TestQ3Dead(t *testing.T) {
	j := jarOf(made("a", "x", 0, 5), made("b", "x", 1, 5), made("c", "x", 2, 5))
	j.Cookies[1].Expiry, j.Cookies[2].Expiry = now, now+1
	want := jarOf(slices.Clone(j.Cookies)...)
	want.Cookies[0].Used, want.Cookies[2].Used = now, now
	gets(t, j, api.From{Host: "x", Path: "/"}, now, want, []api.Cookie{want.Cookies[0], want.Cookies[2]}, api.OK)
}

func TestQ3Errors(t *testing.T) {
	for _, f := range []api.From{{}, {Host: "x"}, {Path: "/"}, {Host: "X", Path: "/"}, {Host: "x", Path: "p"}, {Host: "x", Path: "/;"}, {Host: "x", Path: "/\x7f"}, {Host: "x", Path: "/" + strings.Repeat("p", api.MaxText)}, {Host: "x..y", Path: "/"}, {Host: strings.Repeat("x.", 200) + "x", Path: "/"}} {
		gets(t, full(), f, now, api.Jar{}, nil, api.ErrForm)
		gets(t, full(), f, api.LastMoment+1, api.Jar{}, nil, api.ErrForm)
		gets(t, api.Jar{Next: -1}, f, now, api.Jar{}, nil, api.ErrRange)
		gets(t, api.Jar{Cookies: make([]api.Cookie, 13)}, f, now, api.Jar{}, nil, api.ErrMany)
	}
	for _, n := range noMoments {
		gets(t, full(), api.From{Host: "x", Path: "/"}, n, api.Jar{}, nil, api.ErrRange)
		gets(t, jarOf(made("a", "x", 0, 5), made("a", "x", 1, 5)), api.From{Host: "x", Path: "/"}, n, api.Jar{}, nil, api.ErrTwice)
	}
}

// some cookie, of few names, domains and moments, so that all that may happen does.
func some(r *rand.Rand, n int) api.Cookie {
	text := func(l string, most int) string { k := r.Intn(most); return l[k : k+1] }
	c := api.Cookie{Name: text("abcdef", 6), Value: text("012", 3), Domain: text("uxyz", 4), Path: "/" + text("pq", 2), No: r.Intn(9) - 4}
	c.Created, c.Used, c.Expiry = n-r.Intn(20), n-r.Intn(20), n+r.Intn(60)-5
	c.HostOnly, c.Secure, c.HttpOnly, c.Site = r.Intn(2) == 0, r.Intn(4) == 0, r.Intn(4) == 0, r.Intn(4)
	return c
}

// slowly: the cookies of a jar in which one was put, by going through all of them again and again.
func slowly(j api.Jar, c api.Cookie, n int) api.Jar {
	out := api.Jar{Next: j.Next}
	stands := false
	for _, k := range j.Cookies {
		if k.Expiry <= n {
			continue
		}
		if k.Name == c.Name && k.Domain == c.Domain && k.Path == c.Path {
			created, no := k.Created, k.No
			k = c
			k.Created, k.No = created, no
			stands = true
		}
		out.Cookies = append(out.Cookies, k)
	}
	if !stands {
		c.No = out.Next
		out.Next++
		out.Cookies = append(out.Cookies, c)
	}
	for i, k := range out.Cookies {
		if k.Expiry <= n {
			out.Cookies = append(out.Cookies[:i:i], out.Cookies[i+1:]...)
			break
		}
	}
	out.Cookies = fewer(out.Cookies, c.Domain, 4)
	out.Cookies = fewer(out.Cookies, "", 12)
	return out
}

// fewer: no more cookies of a domain (of all, if it is empty) than may be.
func fewer(l []api.Cookie, domain string, most int) []api.Cookie {
	var of []api.Cookie
	for _, c := range l {
		if domain == "" || c.Domain == domain {
			of = append(of, c)
		}
	}
	if len(of) <= most {
		return l
	}
	slices.SortFunc(of, func(a, b api.Cookie) int {
		if a.Used != b.Used {
			return a.Used - b.Used
		}
		return a.No - b.No
	})
	i := slices.Index(l, of[0])
	return fewer(append(l[:i:i], l[i+1:]...), domain, most)
}

// TestQ4: through long histories no jar has more than it may, and no cookie goes that was used later than one of its domain that stays, but the one that was put.
func TestQ4(t *testing.T) {
	r := rand.New(rand.NewSource(1))
	for range 300 {
		j, n := api.Jar{}, r.Intn(1000)
		for range 100 {
			n += r.Intn(4)
			if r.Intn(3) == 0 {
				f := api.From{Host: "w." + string(rune('x'+r.Intn(3))), Path: "/p", Secure: r.Intn(2) == 0, Script: r.Intn(2) == 0, Abroad: r.Intn(2) == 0}
				f.Host = f.Host[2*r.Intn(2):]
				k, along, e := Get(j, f, n)
				if e != api.OK || k.Next != j.Next || len(k.Cookies) != len(j.Cookies) {
					t.Fatalf("Get(%v, %v, %d) is %v %d", j, f, n, k, e)
				}
				for _, c := range along {
					if c.Used != n || !slices.Contains(k.Cookies, c) || c.Expiry <= n || c.HttpOnly && f.Script {
						t.Fatalf("Get(%v, %v, %d): %v goes along", j, f, n, c)
					}
				}
				j = k
				continue
			}
			c := some(r, n)
			want := slowly(j, c, n)
			puts(t, j, c, n, want, api.OK)
			checks(t, want, api.OK)
			k, _ := Put(j, c, n)
			for _, gone := range j.Cookies {
				has := slices.ContainsFunc(k.Cookies, func(d api.Cookie) bool { return d.No == gone.No })
				for _, stays := range k.Cookies {
					if !has && gone.Expiry > n && c.Expiry > n && stays.Domain == gone.Domain && stays.No != j.Next && stays.Used < gone.Used {
						t.Fatalf("at %d, %v goes, and %v stays", n, gone, stays)
					}
				}
			}
			j = k
		}
	}
}

// TestP2: what is handed in is only read, the spare room behind it too, and no two lists share memory.
func TestP2(t *testing.T) {
	l := full().Cookies
	spare := append(slices.Clone(l), made("spare", "spare", 99, 5))
	before := slices.Clone(spare)
	for _, x := range []struct {
		n int
		c api.Cookie
	}{{12, made("a", "x", 0, 500)}, {12, made("new", "x", 0, 500)}, {9, made("new", "new", 0, 500)}, {12, made("new", "new", 0, 5)}, {0, made("new", "new", 0, 5)}} {
		j := api.Jar{Cookies: spare[:x.n], Next: 12}
		for i := range 3 { // others, dead, and dead itself
			k, _ := Put(j, x.c, []int{now, 9000, 9001}[i])
			for m := range k.Cookies {
				k.Cookies[m] = api.Cookie{}
			}
			_ = append(k.Cookies, api.Cookie{Name: "more"})
		}
		k, along, _ := Get(j, api.From{Host: "x", Path: "/"}, now)
		for m := range along {
			along[m] = api.Cookie{}
		}
		_ = append(along, api.Cookie{Name: "more"})
		for _, c := range k.Cookies {
			if c == (api.Cookie{}) {
				t.Errorf("a list of an answer shares memory with another one: %v", k)
			}
		}
		for m := range k.Cookies {
			k.Cookies[m] = api.Cookie{}
		}
		Check(j)
		if !slices.Equal(spare, before) {
			t.Fatalf("changed: %v", spare)
		}
	}
}

// TestP1P3: no call panics; with an error there is nothing else; and what was asked between changes no answer.
func TestP1P3(t *testing.T) {
	type answers struct {
		j, k    api.Jar
		l       []api.Cookie
		e, f, g api.Errno
	}
	ask := func(i int) answers {
		r := rand.New(rand.NewSource(int64(i)))
		odd := func(n int) int {
			if r.Intn(40) == 0 {
				return int(r.Uint64())
			}
			return n
		}
		j := api.Jar{Next: odd(20)}
		for range r.Intn(1 + r.Intn(14)) {
			c := some(r, now)
			c.No, c.Used, c.Created, c.Expiry = odd(r.Intn(20)), odd(c.Used), odd(c.Created), odd(c.Expiry)
			j.Cookies = append(j.Cookies, c)
		}
		var o answers
		n := odd(now)
		o.e = Check(j)
		o.j, o.f = Put(j, some(r, odd(now)), n)
		o.k, o.l, o.g = Get(j, api.From{Host: "y.x"[r.Intn(4):], Path: "/p"}, n)
		if o.e != api.OK && (o.f != o.e || o.g != o.e) || o.f != api.OK && !same(o.j, api.Jar{}) || o.g != api.OK && !same(o.k, api.Jar{}) || o.g != api.OK && len(o.l) > 0 {
			t.Fatalf("%v: %+v", j, o)
		}
		return o
	}
	var first []answers
	for i := range 5000 {
		first = append(first, ask(i))
	}
	for i := len(first) - 1; i >= 0; i-- {
		if o := ask(i); !reflect.DeepEqual(o, first[i]) {
			t.Errorf("first %v, then %v", first[i], o)
		}
	}
}

// TestP4: cookies of millions, and texts of millions, are answered as few and short ones are, and soon.
func TestP4(t *testing.T) {
	begun := time.Now()
	const n = 1 << 22
	fails(t, api.Jar{Cookies: make([]api.Cookie, n)}, api.ErrMany)
	long := strings.Repeat("a.", n)
	var l []api.Cookie
	for i := range 12 {
		c := made(long+string(rune('a'+i)), long[:len(long)-i/4]+"x", i, i)
		c.Path = long
		l = append(l, c)
	}
	j := jarOf(l...)
	checks(t, j, api.OK)
	c := l[5]
	c.Value, c.Used = long, 50
	want := jarOf(slices.Clone(l)...)
	want.Cookies[5] = c
	puts(t, j, c, now, want, api.OK)
	gets(t, j, api.From{Host: "a.x", Path: "/"}, now, j, nil, api.OK)
	gets(t, j, api.From{Host: long, Path: "/"}, now, api.Jar{}, nil, api.ErrForm)
	if d := time.Since(begun); d > time.Minute {
		t.Errorf("it took %v", d)
	}
}
