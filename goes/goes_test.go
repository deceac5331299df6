package goes

import (
	"math"
	"math/rand"
	"strings"
	"testing"
	"time"

	"gingersnap/api"
)

const now = 1000

// moments: ordinary ones, the bounds, and numbers that are none.
var moments = []int{math.MinInt, math.MinInt + 1, api.FirstMoment - 1, api.FirstMoment, -1, 0, 1, now - 1, now, now + 1, api.LastMoment, api.LastMoment + 1, math.MaxInt - 1, math.MaxInt}

// base: a cookie that goes along with who.
func base() api.Cookie {
	return api.Cookie{Name: "id", Value: "7", Domain: "shop.com", Path: "/cart", Expiry: now + 1, Created: now, Used: now}
}

func who() api.From { return api.From{Host: "www.shop.com", Path: "/cart/x"} }

func asks(t *testing.T, c api.Cookie, f api.From, n int, want bool) {
	t.Helper()
	if got := Goes(c, f, n); got != want {
		t.Errorf("at %d, %+v asks for %+v: %v", n, f, c, got)
	}
}

func TestI1(t *testing.T) {
	for _, c := range []struct {
		expiry, n int
		want      bool
	}{
		{1060, 1059, true},
		{1060, 1060, false},
		{1060, 1061, false},
		{0, 0, false},
		{0, -1, true},
		{-1, 0, false},
		{api.FirstMoment, api.FirstMoment, false},
		{api.LastMoment, api.LastMoment - 1, true},
		{api.LastMoment, api.LastMoment, false},
		{math.MaxInt, math.MinInt, true},
		{math.MinInt, math.MaxInt, false},
	} {
		if got := Live(api.Cookie{Expiry: c.expiry}, c.n); got != c.want {
			t.Errorf("what expires at %d is live at %d: %v", c.expiry, c.n, got)
		}
	}
}

// TestI1Expiry: nothing but the expiry counts, and it is held against now without a wrap-round.
func TestI1Expiry(t *testing.T) {
	for i, expiry := range moments {
		for k, n := range moments {
			for _, c := range []api.Cookie{{}, base(), {Lasting: true}, {Created: math.MaxInt, Used: math.MaxInt, No: -1}} {
				c.Expiry = expiry
				if got := Live(c, n); got != (i > k) {
					t.Errorf("at %d, %+v is live: %v", n, c, got)
				}
			}
		}
	}
}

func TestI2Live(t *testing.T) {
	c := base()
	asks(t, c, who(), now-1, true)
	asks(t, c, who(), now, true)
	asks(t, c, who(), now+1, false)
	asks(t, c, who(), math.MinInt, true)
	asks(t, c, who(), math.MaxInt, false)
	c.Expiry = api.FirstMoment
	asks(t, c, who(), now, false)
	c.Lasting = true
	asks(t, c, who(), now, false)
}

func TestI2Host(t *testing.T) {
	for _, x := range []struct {
		h, domain string
		alone     bool // does it go along, if it is for the host alone?
		below     bool // and if it is for those below it, too?
	}{
		{"shop.com", "shop.com", true, true},
		{"www.shop.com", "shop.com", false, true},
		{"a.b.shop.com", "shop.com", false, true},
		{"shop.com", "www.shop.com", false, false},
		{"xshop.com", "shop.com", false, false},
		{"other.com", "shop.com", false, false},
		{"shop.com", "com", false, true},
		{"com", "com", true, true},
		{"Shop.com", "shop.com", false, false},
		{"shop.com.", "shop.com", false, false},
		{"1.2.3.4", "1.2.3.4", true, true},
		{"1.2.3.4", "2.3.4", false, false},
		{"1.2.3.4", "4", false, false},
		{"0.1.2.3.4", "4", false, true},
		{"1.2.3.256", "3.256", false, true},
		{"", "", true, true},
		{"a", "", false, false},
		{"a.", "", false, true},
		{"", "a", false, false},
		{"\xff.\xfe", "\xfe", false, true},
		{"\xff\xfe", "\xfe", false, false},
	} {
		c, f := base(), who()
		c.Domain, f.Host = x.domain, x.h
		asks(t, c, f, now, x.below)
		c.HostOnly = true
		asks(t, c, f, now, x.alone)
	}
}

func TestI2Path(t *testing.T) {
	for _, x := range []struct {
		p, of string
		want  bool
	}{
		{"/cart", "/cart", true},
		{"/cart/", "/cart", true},
		{"/cart/x", "/cart", true},
		{"/cart/x", "/cart/", true},
		{"/cart", "/cart/", false},
		{"/carts", "/cart", false},
		{"/", "/cart", false},
		{"/Cart", "/cart", false},
		{"/x/cart", "/cart", false},
		{"/anything", "/", true},
		{"", "", true},
		{"/", "", true},
		{"a", "", false},
		{"", "/", false},
		{"\xff/", "\xff", true},
	} {
		for _, alone := range []bool{false, true} {
			c, f := base(), who()
			c.Path, f.Path, c.HostOnly = x.of, x.p, alone
			asks(t, c, f, now, x.want && !alone)
			f.Host = c.Domain
			asks(t, c, f, now, x.want)
		}
	}
}

// ways: all in which one can ask.
func ways() []api.From {
	var out []api.From
	for i := range 8 {
		f := who()
		f.Secure, f.Script, f.Abroad = i&1 != 0, i&2 != 0, i&4 != 0
		out = append(out, f)
	}
	return out
}

func TestI2Secure(t *testing.T) {
	for _, f := range ways() {
		c := base()
		c.Site = api.SiteNone
		asks(t, c, f, now, true)
		c.Secure = true
		asks(t, c, f, now, f.Secure)
	}
}

func TestI2Script(t *testing.T) {
	for _, f := range ways() {
		c := base()
		c.Site = api.SiteNone
		asks(t, c, f, now, true)
		c.HttpOnly = true
		asks(t, c, f, now, !f.Script)
	}
}

// TestI2Site: abroad only those of SiteNone, and none of a number that is no site.
func TestI2Site(t *testing.T) {
	for _, f := range ways() {
		for _, site := range []int{api.SiteUsual, api.SiteNone, api.SiteLax, api.SiteStrict, 4, -1, math.MinInt, math.MaxInt} {
			c := base()
			c.Site = site
			asks(t, c, f, now, !f.Abroad || site == 1)
		}
	}
}

// TestI2Others: nothing counts that the promise does not name.
func TestI2Others(t *testing.T) {
	for i, n := range moments {
		c := base()
		c.Name, c.Value, c.Lasting = strings.Repeat(";", i), strings.Repeat("\xff", i), i%2 == 0
		c.Created, c.Used, c.No = n, moments[len(moments)-1-i], n
		asks(t, c, who(), now, true)
		c.Secure = true
		asks(t, c, who(), now, false)
	}
}

// TestI2Zero: a cookie and an asker of which nothing is told are no others.
func TestI2Zero(t *testing.T) {
	asks(t, api.Cookie{}, api.From{}, 0, false)
	asks(t, api.Cookie{}, api.From{}, -1, true)
	asks(t, api.Cookie{HostOnly: true}, api.From{}, -1, true)
	asks(t, api.Cookie{}, api.From{Host: "shop.com", Path: "/"}, -1, false)
	asks(t, api.Cookie{HostOnly: true}, api.From{Host: "shop.com", Path: "/"}, -1, false)
}

func pick[T any](r *rand.Rand, l ...T) T { return l[r.Intn(len(l))] }

func flip(r *rand.Rand) bool { return r.Intn(2) == 0 }

// scraps: a cookie and an asker of few texts, so that they meet often.
func scraps(r *rand.Rand) (api.Cookie, api.From, int) {
	hosts := []string{"a.com", "a.com", "b.a.com", "com", "1.2.3.4", "3.4", ""}
	paths := []string{"/", "/", "/x", "/x/", "/x/y", "/xy", ""}
	c := api.Cookie{Name: pick(r, "", "id"), Domain: pick(r, hosts...), Path: pick(r, paths...), HostOnly: r.Intn(3) == 0, Secure: flip(r), HttpOnly: flip(r), Lasting: flip(r), Site: r.Intn(5) - 1, Expiry: pick(r, now-1, now, now+1, now+9, math.MinInt, math.MaxInt)}
	f := api.From{Host: pick(r, hosts...), Path: pick(r, paths...), Secure: flip(r), Script: flip(r), Abroad: r.Intn(3) == 0}
	return c, f, pick(r, now, now, now+1, -now, math.MinInt, math.MaxInt)
}

// below: is a text one of the hosts that scraps has, and that one or one below it?
func below(h, domain string) bool {
	switch domain {
	case "com":
		return h == "com" || h == "a.com" || h == "b.a.com"
	case "a.com":
		return h == "a.com" || h == "b.a.com"
	}
	return h == domain
}

// under: the same of paths.
func under(p, of string) bool {
	switch of {
	case "":
		return p == "" || p[0] == '/'
	case "/":
		return p != ""
	case "/x":
		return p == "/x" || p == "/x/" || p == "/x/y"
	case "/x/":
		return p == "/x/" || p == "/x/y"
	}
	return p == of
}

func TestI2Scraps(t *testing.T) {
	r := rand.New(rand.NewSource(9))
	count := map[bool]int{}
	for range 200000 {
		c, f, n := scraps(r)
		want := c.Expiry > n && below(f.Host, c.Domain) && under(f.Path, c.Path)
		if c.HostOnly && f.Host != c.Domain || c.Secure && !f.Secure || c.HttpOnly && f.Script || f.Abroad && c.Site != api.SiteNone {
			want = false
		}
		asks(t, c, f, n, want)
		count[want]++
	}
	if count[true] < 2000 || count[false] < 2000 {
		t.Errorf("of each answer there are %v", count)
	}
}

// TestI3: later no more are live or go along, and by a secure way no fewer.
func TestI3(t *testing.T) {
	r := rand.New(rand.NewSource(10))
	for range 50000 {
		c, f, n := scraps(r)
		plain, secure := f, f
		plain.Secure, secure.Secure = false, true
		if Goes(c, plain, n) && !Goes(c, secure, n) {
			t.Fatalf("at %d, %+v goes along with %+v, but not by a secure way", n, c, f)
		}
		live, along := Live(c, moments[0]), Goes(c, f, moments[0])
		for _, later := range moments[1:] {
			if !live && Live(c, later) || !along && Goes(c, f, later) {
				t.Fatalf("%+v goes along with %+v at %d, but not before", c, f, later)
			}
			live, along = Live(c, later), Goes(c, f, later)
		}
	}
}

// TestP1P3: no call panics, and what was asked between changes no answer.
func TestP1P3(t *testing.T) {
	ask := func(i int) [2]bool {
		c, f, n := scraps(rand.New(rand.NewSource(int64(i))))
		return [2]bool{Live(c, n), Goes(c, f, n)}
	}
	var first [][2]bool
	for i := range 20000 {
		first = append(first, ask(i))
	}
	for i := len(first) - 1; i >= 0; i-- {
		if again := ask(i); again != first[i] {
			t.Errorf("%d: first %v, then %v", i, first[i], again)
		}
	}
}

// TestP4: texts of millions of bytes are answered as short ones are, and soon.
func TestP4(t *testing.T) {
	const n = 1 << 21
	begun := time.Now()
	c, f := base(), who()
	c.Domain, c.Path = strings.Repeat("a.", n)+"com", strings.Repeat("/x", n)
	f.Host, f.Path = "b."+c.Domain, c.Path+"/y"
	for range 20 {
		asks(t, c, f, now, true)
	}
	f.Host = "b" + c.Domain
	asks(t, c, f, now, false)
	f.Host, f.Path = c.Domain, c.Path+"y"
	asks(t, c, f, now, false)
	if d := time.Since(begun); d > time.Minute {
		t.Errorf("it took %v", d)
	}
}
