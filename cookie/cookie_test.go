package cookie

import (
	"math"
	"math/big"
	"math/rand"
	"regexp"
	"slices"
	"strings"
	"testing"
	"time"

	"gingersnap/api"
	"gingersnap/header"
	"gingersnap/host"
	"gingersnap/path"
	"gingersnap/stamp"
	"gingersnap/suffix"
)

const (
	now    = 1000
	date   = "Sun, 06 Nov 1994 08:49:37 GMT"
	moment = 784111777 // of date
)

func rules() []api.Suffix {
	return []api.Suffix{{Kind: api.Plain, Name: "com"}, {Kind: api.Plain, Name: "co.uk"}, {Kind: api.Wild, Name: "ck"}, {Kind: api.Except, Name: "www.ck"}}
}

func shop() api.From {
	return api.From{Host: "www.shop.com", Path: "/cart/add", Secure: true}
}

func at(h string) api.From {
	return api.From{Host: h, Path: "/cart/add", Secure: true}
}

// told: what a header tells, which must be one that can be read.
func told(t *testing.T, s string) api.Raw {
	t.Helper()
	r, e := header.Read(s)
	if e != api.OK {
		t.Fatalf("header.Read(%q) is %d", s, e)
	}
	return r
}

// plain: what id=7 is, set by somebody at that moment.
func plain(f api.From) api.Cookie {
	return api.Cookie{Name: "id", Value: "7", Domain: f.Host, Path: "/cart", HostOnly: true, Expiry: api.LastMoment, Created: now, Used: now}
}

func makes(t *testing.T, l []api.Suffix, r api.Raw, f api.From, n int, want api.Cookie, e api.Errno) {
	t.Helper()
	if got, g := Make(l, r, f, n); got != want || g != e {
		t.Errorf("Make(%v, %q, %+v, %d) is\n%+v %d, must be\n%+v %d", l, r, f, n, got, g, want, e)
	}
}

// made: id=7 with these attributes is the plain cookie, but for what is changed.
func made(t *testing.T, f api.From, attrs string, change func(*api.Cookie)) {
	t.Helper()
	want := plain(f)
	change(&want)
	makes(t, rules(), told(t, "id=7"+attrs), f, now, want, api.OK)
}

// fails: a header is not let to set a cookie.
func fails(t *testing.T, f api.From, s string, e api.Errno) {
	t.Helper()
	makes(t, rules(), told(t, s), f, now, api.Cookie{}, e)
}

func nothing(*api.Cookie) {}

func ready(t *testing.T, f api.From, n int, want api.Errno) {
	t.Helper()
	if got := Ready(f, n); got != want {
		t.Errorf("Ready(%+v, %d) is %d, must be %d", f, n, got, want)
	}
	if want != api.OK {
		makes(t, rules(), api.Raw{Name: "id"}, f, n, api.Cookie{}, want)
		return
	}
	if c, e := Make(rules(), api.Raw{Name: "id"}, f, n); e != api.OK || c.Created != n || c.Used != n || c.Domain != f.Host {
		t.Errorf("set by %+v at %d it is %+v %d", f, n, c, e)
	}
}

func TestH1Good(t *testing.T) {
	long := strings.Repeat("a.", 126) + "a"
	for _, h := range []string{"a", "localhost", "www.shop.com", "1.2.3.4", "x-1.y", "com", long} {
		for _, p := range []string{"/", "//", "/cart/add", "/a b", "/a ", "/\t", "/ ", "/a=b", "/a?b,c\"#", "/\xff\x80", "/" + strings.Repeat("a", api.MaxText-1)} {
			for _, n := range []int{api.FirstMoment, -1, 0, 1000, api.LastMoment} {
				ready(t, api.From{Host: h, Path: p}, n, api.OK)
				ready(t, api.From{Host: h, Path: p, Secure: true, Script: true, Abroad: true}, n, api.OK)
			}
		}
	}
}

func TestH1Form(t *testing.T) {
	long := strings.Repeat("a.", 126) + "a"
	for _, n := range []int{0, math.MinInt, api.LastMoment + 1} { // a moment that is none tells later
		for _, h := range []string{"", ".", "Shop.com", "shop.coM", "a..b", ".a", "a.", "-a", "a-", "a_b", "a b", " a", "a:80", "\xff", "a\x00", strings.Repeat("l", 64), long + "a", long + ".a"} {
			ready(t, api.From{Host: h, Path: "/"}, n, api.ErrForm)
			ready(t, api.From{Host: h, Path: ""}, n, api.ErrForm)
		}
		for _, p := range []string{"", "a", "a/", " /", "\t/", "\\", "\xff/", "/;", ";/", "/a;b", "/" + strings.Repeat("a", api.MaxText), "/" + strings.Repeat(" ", api.MaxText)} {
			ready(t, api.From{Host: "a.com", Path: p}, n, api.ErrForm)
		}
	}
}

func TestH1Bytes(t *testing.T) {
	for i := range 256 {
		want := api.OK
		if i <= 8 || 10 <= i && i <= 31 || i == 127 || i == 59 {
			want = api.ErrForm
		}
		b := string([]byte{byte(i)})
		for _, p := range []string{"/" + b, "/a" + b + "z", "/ " + b + " ", "/" + strings.Repeat("a", 398) + b} {
			ready(t, api.From{Host: "a.com", Path: p}, now, want)
		}
	}
}

func TestH1Range(t *testing.T) {
	for _, n := range []int{math.MinInt, api.FirstMoment - 1, api.LastMoment + 1, math.MaxInt} {
		ready(t, shop(), n, api.ErrRange)
		ready(t, api.From{Host: "1.2.3.4", Path: "/"}, n, api.ErrRange)
	}
}

func age(t *testing.T, s string, want int, ok bool) {
	t.Helper()
	if got, is := Age(s); got != want || is != ok {
		t.Errorf("Age(%q) is %d %v, must be %d %v", s, got, is, want, ok)
	}
}

func TestH2(t *testing.T) {
	for s, n := range map[string]int{
		"0": 0, "-0": 0, "000": 0, "-00": 0, "7": 7, "-7": -7, "60": 60, "007": 7, "-007": -7, "9876543210": 9876543210,
		"999999999999": api.MaxAge - 1, "1000000000000": api.MaxAge, "1000000000001": api.MaxAge, "2000000000000": api.MaxAge,
		"-999999999999": 1 - api.MaxAge, "-1000000000000": -api.MaxAge, "-1000000000001": -api.MaxAge,
		"9223372036854775808": api.MaxAge, "18446744073709551616": api.MaxAge, "18446744073709551617": api.MaxAge, "-9223372036854775809": -api.MaxAge,
		"0000000000000000000000000000000000007": 7, "100000000000000000000000000000000000000": api.MaxAge, "-340282366920938463463374607431768211456": -api.MaxAge,
	} {
		age(t, s, n, true)
	}
	for _, s := range []string{"", "-", "--", "--5", "+5", "+", "5-", "5x", "x5", "-x", "-5x", "5 ", " 5", "- 5", "1 2", "1.0", "1e3", "0x10", "1_000", "5\x00", "\xff", "\u0665", "1000000000000x", "99999999999999999999-", "9999999999999 9999999"} {
		age(t, s, 0, false)
	}
}

func TestH2Scraps(t *testing.T) {
	form := regexp.MustCompile(`^-?[0-9]+$`)
	most := big.NewInt(api.MaxAge)
	r := rand.New(rand.NewSource(1))
	for range 50000 {
		s := ""
		for range r.Intn(24) {
			s += string("0123456789"[r.Intn(10)])
		}
		switch r.Intn(4) {
		case 0:
			s = "-" + s
		case 1:
			s += string("-x 5"[r.Intn(4)])
		}
		if !form.MatchString(s) {
			age(t, s, 0, false)
			continue
		}
		n, _ := new(big.Int).SetString(s, 10)
		if n.CmpAbs(most) > 0 {
			n.Mul(most, big.NewInt(int64(n.Sign())))
		}
		age(t, s, int(n.Int64()), true)
	}
}

func TestH3Plain(t *testing.T) {
	made(t, shop(), "", nothing)
	made(t, at("a.b.co.uk"), "", nothing)
	made(t, at("localhost"), "", nothing)
	made(t, at("com"), "", nothing) // a public suffix, for itself alone
	made(t, at("1.2.3.4"), "", nothing)
	made(t, api.From{Host: "a.com", Path: "/cart/x", Abroad: true}, "", nothing)
	made(t, shop(), "; odd=1; version=1; id=8; name=x; value=y; hostonly; lasting; site=none; used=1", nothing)
	makes(t, nil, told(t, "Id =\"a b\"=c"), shop(), now, api.Cookie{Name: "Id", Value: "\"a b\"=c", Domain: "www.shop.com", Path: "/cart", HostOnly: true, Expiry: api.LastMoment, Created: now, Used: now}, api.OK)
	makes(t, nil, api.Raw{Name: "id", Attrs: []api.Attr{}}, api.From{Host: "x", Path: "/"}, -5, api.Cookie{Name: "id", Domain: "x", Path: "/", HostOnly: true, Expiry: api.LastMoment, Created: -5, Used: -5}, api.OK)
}

// TestExample: the one that the document begins with, as far as cookies go.
func TestExample(t *testing.T) {
	made(t, shop(), "; domain=shop.com; secure", func(c *api.Cookie) {
		c.Domain, c.HostOnly, c.Secure = "shop.com", false, true
	})
}

func TestH3Expires(t *testing.T) {
	until := func(n int) func(*api.Cookie) {
		return func(c *api.Cookie) { c.Lasting, c.Expiry = true, n }
	}
	made(t, shop(), "; expires="+date, until(moment))
	made(t, shop(), "; EXPIRES = "+date+" ", until(moment))
	made(t, shop(), "; expires=Thu, 01 Jan 1970 00:00:00 GMT", until(0))
	made(t, shop(), "; expires=Mon, 01 Jan 1601 00:00:00 GMT", until(api.FirstMoment))
	made(t, shop(), "; expires=Fri, 31 Dec 9999 23:59:59 GMT", until(api.LastMoment)) // it lasts, though as long as one that does not
	made(t, shop(), "; expires=soon; expires="+date, until(moment))
	made(t, shop(), "; expires="+date+"; expires=soon; expires=; expires", until(moment))
	made(t, shop(), "; expires=Thu, 01 Jan 1970 00:00:00 GMT; expires="+date, until(moment))
	made(t, shop(), "; expires="+date+"; expires=Thu, 01 Jan 1970 00:00:00 GMT", until(0))
	made(t, shop(), "; expires="+date+"; expires=Sun, 31 Nov 1994 08:49:37 GMT", until(moment)) // there is no such day
	for _, s := range []string{"soon", "", "=", "0", "60", "Sun, 06 Nov 1994", "Sun, 31 Nov 1994 08:49:37 GMT", "Sun, 06 Nov 1600 08:49:37 GMT", "06 Nov 1994 24:00:00"} {
		made(t, shop(), "; expires="+s, nothing)
	}
	r := api.Raw{Name: "id", Value: "7", Attrs: []api.Attr{{Name: "expires", Value: strings.Repeat("x", api.MaxText) + date}}}
	makes(t, rules(), r, shop(), now, plain(shop()), api.OK) // too long to say something
}

func TestH3MaxAge(t *testing.T) {
	until := func(n int) func(*api.Cookie) {
		return func(c *api.Cookie) { c.Lasting, c.Expiry = true, n }
	}
	made(t, shop(), "; max-age=60", until(now+60))
	made(t, shop(), "; Max-Age = 60 ", until(now+60))
	made(t, shop(), "; max-age=1", until(now+1))
	made(t, shop(), "; max-age=0", until(api.FirstMoment))
	made(t, shop(), "; max-age=-0", until(api.FirstMoment))
	made(t, shop(), "; max-age=-1", until(api.FirstMoment))
	made(t, shop(), "; max-age=-99999999999999999999", until(api.FirstMoment))
	made(t, shop(), "; max-age=253402299798", until(api.LastMoment-1))
	made(t, shop(), "; max-age=253402299799", until(api.LastMoment))
	made(t, shop(), "; max-age=253402299800", until(api.LastMoment))
	made(t, shop(), "; max-age=99999999999999999999", until(api.LastMoment))
	made(t, shop(), "; max-age=5; max-age=9", until(now+9))
	made(t, shop(), "; max-age=9; max-age=5", until(now+5))
	made(t, shop(), "; max-age=5; max-age=; max-age; max-age=+7; max-age=7x", until(now+5))
	made(t, shop(), "; max-age=x; max-age=5", until(now+5))
	made(t, shop(), "; max-age=5; max-age=0", until(api.FirstMoment))
	made(t, shop(), "; max-age=0; max-age=5", until(now+5))
	for _, s := range []string{"", "-", "x", "+1", "1.5", "1s", "\"60\"", date} {
		made(t, shop(), "; max-age="+s, nothing)
	}
	made(t, shop(), "; expires="+date+"; max-age=60", until(now+60)) // ahead of expires, wherever both stand
	made(t, shop(), "; max-age=60; expires="+date, until(now+60))
	made(t, shop(), "; max-age=-1; expires="+date, until(api.FirstMoment))
	made(t, shop(), "; max-age=x; expires="+date, until(moment))
	made(t, shop(), "; max-age=60; expires=soon", until(now+60))
	made(t, shop(), "; max-age=x; expires=soon", nothing)
}

// TestH3MaxAgeEdges: at the first and the last moments.
func TestH3MaxAgeEdges(t *testing.T) {
	for _, c := range []struct {
		at, age, want int
	}{
		{api.LastMoment, 1, api.LastMoment}, {api.LastMoment - 1, 1, api.LastMoment}, {api.LastMoment, 0, api.FirstMoment},
		{api.FirstMoment, 1, api.FirstMoment + 1}, {api.FirstMoment, 0, api.FirstMoment}, {api.FirstMoment, -5, api.FirstMoment},
		{api.FirstMoment, api.MaxAge, api.LastMoment}, {-10, 10, 0}, {-10, 5, -5},
	} {
		want := plain(shop())
		want.Created, want.Used, want.Lasting, want.Expiry = c.at, c.at, true, c.want
		r := api.Raw{Name: "id", Value: "7", Attrs: []api.Attr{{Name: "max-age", Value: big.NewInt(int64(c.age)).String()}}}
		makes(t, rules(), r, shop(), c.at, want, api.OK)
	}
}

func TestH3Path(t *testing.T) {
	of := func(p string) func(*api.Cookie) { return func(c *api.Cookie) { c.Path = p } }
	made(t, shop(), "; path=/", of("/"))
	made(t, shop(), "; PATH = /X/y ", of("/X/y"))
	made(t, shop(), "; path=/cart/add/", of("/cart/add/"))
	made(t, shop(), "; path=//", of("//"))
	made(t, shop(), "; path=/a=b c", of("/a=b c"))
	made(t, shop(), "; path=/elsewhere", of("/elsewhere"))
	made(t, shop(), "; path=/; path=/y", of("/y"))
	made(t, shop(), "; path=/y; path=/", of("/"))
	for _, s := range []string{"; path", "; path=", "; path=x", "; path=x/", "; path=\\", "; path=\"/\"", "; path=/y; path=", "; path=/y; path", "; path=/y; path=x"} {
		made(t, shop(), s, of("/cart"))
	}
	f := shop()
	for _, c := range [][2]string{{"/", "/"}, {"/a", "/"}, {"/a/", "/a"}, {"/a/b/c", "/a/b"}, {"//", "/"}, {"/a /b", "/a "}} {
		f.Path = c[0]
		made(t, f, "", of(c[1]))
		made(t, f, "; path=x", of(c[1]))
		made(t, f, "; path=/y", of("/y"))
	}
	r := api.Raw{Name: "id", Value: "7", Attrs: []api.Attr{{Name: "path", Value: "/" + strings.Repeat("p", 2*api.MaxText)}}}
	want := plain(shop())
	want.Path = r.Attrs[0].Value
	makes(t, rules(), r, shop(), now, want, api.OK) // no promise bounds it
}

func TestH3Flags(t *testing.T) {
	secure := func(c *api.Cookie) { c.Secure = true }
	hidden := func(c *api.Cookie) { c.HttpOnly = true }
	for _, v := range []string{"", "=", "=false", "=0", "=no"} {
		made(t, shop(), "; secure"+v, secure)
		made(t, shop(), "; httponly"+v, hidden)
	}
	made(t, shop(), "; Secure; SECURE", secure)
	made(t, shop(), "; HttpOnly", hidden)
	made(t, shop(), "; secure; httponly", func(c *api.Cookie) { c.Secure, c.HttpOnly = true, true })
	made(t, shop(), "; secured; http-only; secur", nothing)
}

func TestH3Site(t *testing.T) {
	of := func(n int) func(*api.Cookie) { return func(c *api.Cookie) { c.Site = n } }
	for s, n := range map[string]int{"none": api.SiteNone, "None": api.SiteNone, "NONE": api.SiteNone, "lax": api.SiteLax, "Lax": api.SiteLax, "strict": api.SiteStrict, "STRICT": api.SiteStrict, " strict ": api.SiteStrict, "": api.SiteUsual, "odd": api.SiteUsual, "usual": api.SiteUsual, "default": api.SiteUsual, "nonee": api.SiteUsual, "stric": api.SiteUsual, "\"lax\"": api.SiteUsual, "1": api.SiteUsual} {
		made(t, shop(), "; samesite="+s, of(n))
		made(t, shop(), "; samesite=lax; SameSite="+s, of(n)) // the last one says something, whatever it is
		made(t, shop(), "; samesite=strict; samesite="+s, of(n))
	}
	made(t, shop(), "; samesite", of(api.SiteUsual))
	made(t, shop(), "; samesite=none; samesite", of(api.SiteUsual))
	f := shop()
	f.Secure, f.Abroad = false, true
	made(t, f, "; samesite=none", of(api.SiteNone)) // no promise bars it
}

func TestH3Domain(t *testing.T) {
	of := func(d string) func(*api.Cookie) {
		return func(c *api.Cookie) { c.Domain, c.HostOnly = d, false }
	}
	made(t, shop(), "; domain=shop.com", of("shop.com"))
	made(t, shop(), "; domain=.shop.com", of("shop.com"))
	made(t, shop(), "; DOMAIN = .Shop.COM ", of("shop.com"))
	made(t, shop(), "; domain=www.shop.com", of("www.shop.com")) // for those below it too
	made(t, at("a.b.shop.com"), "; domain=b.shop.com", of("b.shop.com"))
	made(t, at("x.y.co.uk"), "; domain=y.co.uk", of("y.co.uk"))
	made(t, at("a.www.ck"), "; domain=www.ck", of("www.ck"))
	made(t, at("y.x.ck"), "; domain=y.x.ck", of("y.x.ck"))
	made(t, shop(), "; domain=other.com; domain=shop.com", of("shop.com")) // the last one counts
	made(t, shop(), "; domain=com; domain=shop.com", of("shop.com"))
	made(t, shop(), "; domain=a..b; domain=shop.com", of("shop.com"))
	made(t, shop(), "; domain=shop.com; domain=; domain; domain=.", of("shop.com"))
	for _, s := range []string{"; domain", "; domain=", "; domain=.", "; domain=; domain=."} {
		made(t, shop(), s, nothing)
	}
}

// TestH3Public: a public suffix sets for itself alone; an address is none.
func TestH3Public(t *testing.T) {
	for _, h := range []string{"com", "co.uk", "localhost", "uk", "ck", "x.ck", "7"} {
		made(t, at(h), "; domain="+h, nothing)
		made(t, at(h), "; domain=."+strings.ToUpper(h), nothing)
	}
	made(t, at("1.2.3.4"), "; domain=1.2.3.4", func(c *api.Cookie) { c.HostOnly = false })
	made(t, at("1.2.3.4"), "; domain=.1.2.3.4", func(c *api.Cookie) { c.HostOnly = false })
	made(t, at("x.1.2.3.4"), "; domain=1.2.3.4", func(c *api.Cookie) { c.Domain, c.HostOnly = "1.2.3.4", false })
}

func TestH4Domain(t *testing.T) {
	long := strings.Repeat("a.", 126) + "a"
	for _, d := range []string{"a..b", "..shop.com", "..", "shop.com.", "-a.com", "a-.com", "a_b.com", "a b", "shop.com:80", "\xff.com", "*.com", long + "a", long + ".a", strings.Repeat("l", 64)} {
		fails(t, shop(), "id=7; domain="+d, api.ErrForm)
		fails(t, shop(), "id=7; domain=shop.com; domain="+d, api.ErrForm)
		fails(t, api.From{Host: "www.shop.com", Path: "/", Script: true}, "__host-id=7; secure; httponly; domain="+d, api.ErrForm) // ahead of what bars
	}
	for _, d := range []string{"com", ".com", "COM", "co.uk", "uk", "ck", "x.ck", "localhost"} { // public suffixes that are not the host
		for _, h := range []string{"www.shop.com", "shop.com", "a.co.uk", "y.x.ck", "x.localhost", "www.ck", "net", "1.2.3.4"} {
			fails(t, at(h), "id=7; domain="+d, api.ErrBar)
		}
	}
	for _, d := range []string{"other.com", "op.com", "ww.shop.com", "a.www.shop.com", "shop.com.a.com", "hop.com", "www.shop.co", "1.2.3.4"} {
		fails(t, shop(), "id=7; domain="+d, api.ErrBar)
	}
	for _, d := range []string{"2.3.4", "3.4", "4", "1.2.3.5", "1.2.3", "0.1.2.3.4"} { // nothing is above an address
		fails(t, at("1.2.3.4"), "id=7; domain="+d, api.ErrBar)
	}
	fails(t, shop(), "id=7; domain=shop.com; domain=other.com", api.ErrBar)
	makes(t, nil, told(t, "id=7; domain=co.uk"), at("a.co.uk"), now, api.Cookie{Name: "id", Value: "7", Domain: "co.uk", Path: "/cart", Expiry: api.LastMoment, Created: now, Used: now}, api.OK) // as long as no rule names it
}

func TestH4Ways(t *testing.T) {
	plainWay, script := shop(), shop()
	plainWay.Secure, script.Script = false, true
	fails(t, script, "id=7; httponly", api.ErrBar)
	fails(t, script, "id=7; httponly; secure", api.ErrBar)
	fails(t, plainWay, "id=7; secure", api.ErrBar)
	fails(t, plainWay, "id=7; secure=no; httponly", api.ErrBar)
	made(t, script, "; secure", func(c *api.Cookie) { c.Secure = true })
	made(t, plainWay, "; httponly", func(c *api.Cookie) { c.HttpOnly = true })
	made(t, script, "", nothing)
	made(t, plainWay, "", nothing)
}

func TestH4SecurePrefix(t *testing.T) {
	for _, name := range []string{"__Secure-id", "__secure-id", "__SECURE-", "__sEcUrE-__Host-"} {
		fails(t, shop(), name+"=7", api.ErrBar)
		fails(t, shop(), name+"=7; httponly; path=/", api.ErrBar)
		want := plain(shop())
		want.Name, want.Secure, want.Domain, want.HostOnly = name, true, "shop.com", false
		makes(t, rules(), told(t, name+"=7; secure; domain=shop.com"), shop(), now, want, api.OK)
		f := shop()
		f.Secure = false
		fails(t, f, name+"=7; secure", api.ErrBar)
	}
	for _, name := range []string{"_Secure-id", "__Secure", "__Secure_id", "Secure-id", "x__Secure-id", "__Host", "_Host-id", "__Hosts-id", "x__Host-id"} {
		want := plain(shop())
		want.Name = name
		makes(t, rules(), told(t, name+"=7"), shop(), now, want, api.OK)
	}
}

func TestH4HostPrefix(t *testing.T) {
	root, local := shop(), at("localhost")
	root.Path = "/x"
	for _, name := range []string{"__Host-id", "__host-id", "__HOST-", "__hOsT-__Secure-"} {
		for _, f := range []api.From{shop(), root, local, at("com"), at("1.2.3.4")} {
			want := plain(f)
			want.Name, want.Secure, want.Path = name, true, "/"
			for _, s := range []string{"=7; secure; path=/", "=7; path=/; secure; domain=", "=7; path=/x; secure; domain=.; path=/"} {
				makes(t, rules(), told(t, name+s), f, now, want, api.OK)
			}
			for _, s := range []string{"=7", "=7; secure", "=7; path=/", "=7; secure; path=/x", "=7; secure; path=//", "=7; secure; path=/; path=/x", "=7; secure; path=/; domain=" + f.Host, "=7; secure; path=/; domain=." + f.Host} {
				fails(t, f, name+s, api.ErrBar)
			}
			fails(t, f, name+"=7; secure; domain="+f.Host+"; domain=; path=/", api.ErrBar) // the first domain still says something
			f.Secure = false
			fails(t, f, name+"=7; secure; path=/", api.ErrBar)
		}
		fails(t, shop(), name+"=7; secure; path=/; domain=shop.com", api.ErrBar)
		fails(t, shop(), name+"=7; secure; path=x", api.ErrBar) // told, but it is /cart
		want := plain(root)
		want.Name, want.Secure, want.Path = name, true, "/"
		makes(t, rules(), told(t, name+"=7; secure; path=x"), root, now, want, api.OK) // told, and it is /
		fails(t, root, name+"=7; secure", api.ErrBar)                                  // it is /, but was not told
	}
}

// TestH4Order: of several errors the one that is named first.
func TestH4Order(t *testing.T) {
	good := told(t, "id=7")
	form := told(t, "id=7; domain=a..b")
	bar := told(t, "id=7; domain=other.com")
	unwritten := api.Raw{Name: "id", Attrs: []api.Attr{{Name: "Domain", Value: "shop.com"}}}
	much := api.Raw{Name: "id", Attrs: slices.Repeat([]api.Attr{{Name: "domain", Value: "a..b"}}, api.MaxAttrs+1)}
	nobody := api.From{Host: "Shop.com", Path: "/"}
	for _, c := range []struct {
		l    []api.Suffix
		r    api.Raw
		f    api.From
		n    int
		want api.Errno
	}{
		{make([]api.Suffix, 17), unwritten, nobody, math.MinInt, api.ErrMany},
		{make([]api.Suffix, 1), unwritten, nobody, math.MinInt, api.ErrKind},
		{append(rules(), rules()...), much, nobody, math.MinInt, api.ErrTwice},
		{[]api.Suffix{{Kind: api.Plain, Name: "COM"}}, much, nobody, math.MinInt, api.ErrForm},
		{make([]api.Suffix, 1), good, shop(), now, api.ErrKind},
		{rules(), unwritten, shop(), math.MinInt, api.ErrForm},
		{rules(), much, nobody, math.MinInt, api.ErrMany},
		{rules(), api.Raw{}, shop(), math.MinInt, api.ErrForm},
		{rules(), good, nobody, math.MinInt, api.ErrForm},
		{rules(), bar, nobody, now, api.ErrForm},
		{rules(), form, shop(), math.MinInt, api.ErrRange},
		{rules(), bar, shop(), api.LastMoment + 1, api.ErrRange},
		{rules(), form, shop(), now, api.ErrForm},
		{rules(), bar, shop(), now, api.ErrBar},
		{rules(), good, shop(), now, api.OK},
	} {
		want := api.Cookie{}
		if c.want == api.OK {
			want = plain(c.f)
		}
		makes(t, c.l, c.r, c.f, c.n, want, c.want)
	}
}

// said: the value of the last attribute of a name of which the value says something, and whether there is one.
func said(r api.Raw, name string, says func(string) bool) (string, bool) {
	for i := len(r.Attrs) - 1; i >= 0; i-- {
		if r.Attrs[i].Name == name && says(r.Attrs[i].Value) {
			return r.Attrs[i].Value, true
		}
	}
	return "", false
}

func always(string) bool { return true }

// model of Make, for rules, headers and askers that are good: attribute by attribute, from the last one on.
func model(l []api.Suffix, r api.Raw, f api.From, n int) (api.Cookie, api.Errno) {
	c := api.Cookie{Name: r.Name, Value: r.Value, Domain: f.Host, Path: path.Default(f.Path), HostOnly: true, Created: n, Used: n}
	expires, dated := said(r, "expires", func(s string) bool { _, e := stamp.Read(s); return e == api.OK })
	ages, aged := said(r, "max-age", func(s string) bool { _, ok := Age(s); return ok })
	d, domained := said(r, "domain", func(s string) bool { return s != "" && s != "." })
	p, pathed := said(r, "path", always)
	s, _ := said(r, "samesite", always)
	_, c.Secure = said(r, "secure", always)
	_, c.HttpOnly = said(r, "httponly", always)
	c.Site = map[string]int{"none": api.SiteNone, "lax": api.SiteLax, "strict": api.SiteStrict}[strings.ToLower(s)]
	if strings.HasPrefix(p, "/") {
		c.Path = p
	}
	c.Lasting = dated || aged
	c.Expiry = api.LastMoment
	if dated {
		c.Expiry, _ = stamp.Read(expires)
	}
	if aged {
		a, _ := Age(ages)
		c.Expiry = min(n+a, api.LastMoment)
		if a <= 0 {
			c.Expiry = api.FirstMoment
		}
	}
	if domained {
		d = strings.ToLower(strings.TrimPrefix(d, "."))
		if _, e := host.Canon(d); e != api.OK {
			return api.Cookie{}, api.ErrForm
		}
		own, _ := suffix.Public(l, d)
		switch {
		case own == d && d != f.Host, !slices.Contains(host.Ups(f.Host), d):
			return api.Cookie{}, api.ErrBar
		case own != d:
			c.Domain, c.HostOnly = d, false
		}
	}
	name := strings.ToLower(c.Name)
	ofHost := c.Secure && c.HostOnly && !domained && pathed && c.Path == "/"
	if c.HttpOnly && f.Script || c.Secure && !f.Secure || strings.HasPrefix(name, "__secure-") && !c.Secure || strings.HasPrefix(name, "__host-") && !ofHost {
		return api.Cookie{}, api.ErrBar
	}
	return c, api.OK
}

func pick[T any](r *rand.Rand, l ...T) T { return l[r.Intn(len(l))] }

// scraps: an asker, and a header of few names and values, so that they meet often.
func scraps(r *rand.Rand) (api.Raw, api.From, int) {
	f := api.From{Host: pick(r, "a.com", "b.a.com", "c.b.a.com", "com", "a.x.ck", "www.ck", "a.www.ck", "1.2.3.4"), Path: pick(r, "/", "/x", "/x/y", "/x/y/z"), Secure: r.Intn(3) > 0, Script: r.Intn(3) == 0, Abroad: r.Intn(2) == 0}
	c := api.Raw{Name: pick(r, "id", "id", "__Secure-id", "__host-id"), Value: pick(r, "", "7")}
	for range r.Intn(api.MaxAttrs + 1) {
		var a api.Attr
		switch a.Name = pick(r, "expires", "max-age", "domain", "path", "secure", "httponly", "samesite", "odd"); a.Name {
		case "expires":
			a.Value = pick(r, date, "soon", "", "1 Jan 2000 0:0:0", "31 Feb 2000 0:0:0")
		case "max-age":
			a.Value = pick(r, "5", "0", "-1", "x", "", "99999999999999")
		case "domain":
			a.Value = pick(r, "", ".", f.Host, "."+f.Host, "a.com", "A.com", "b.a.com", "com", "www.ck", "x.ck", "3.4", "a..b")
		case "path":
			a.Value = pick(r, "/", "/", "/x", "x", "")
		case "samesite":
			a.Value = pick(r, "none", "Lax", "STRICT", "odd", "")
		}
		if r.Intn(3) > 0 || a.Name != "domain" && a.Name != "httponly" {
			c.Attrs = append(c.Attrs, a)
		}
	}
	return c, f, pick(r, now, api.FirstMoment, api.LastMoment, api.LastMoment-5)
}

// TestH3H4H5Scraps: as the model tells it; what is made is for the host or one above it, and for no public suffix but the host alone.
func TestH3H4H5Scraps(t *testing.T) {
	r := rand.New(rand.NewSource(2))
	count := map[api.Errno]int{}
	for range 100000 {
		c, f, n := scraps(r)
		l := rules()[:r.Intn(5)]
		want, e := model(l, c, f, n)
		makes(t, l, c, f, n, want, e)
		got, e := Make(l, c, f, n)
		count[e]++
		if e != api.OK {
			continue
		}
		if !host.Match(f.Host, got.Domain) {
			t.Fatalf("%q sets %q for %q", f.Host, c, got.Domain)
		}
		if public, _ := suffix.Public(l, got.Domain); public == got.Domain && (!got.HostOnly || got.Domain != f.Host) {
			t.Fatalf("%q sets %q for the public suffix %q", f.Host, c, got.Domain)
		}
	}
	if count[api.OK] < 5000 || count[api.ErrBar] < 5000 || count[api.ErrForm] < 1000 {
		t.Errorf("of each answer there are %v", count)
	}
}

// TestH5: of all hosts above one, and beside it.
func TestH5(t *testing.T) {
	hosts := []string{"com", "a.com", "b.a.com", "c.b.a.com", "b.com", "co.uk", "a.co.uk", "b.a.co.uk", "uk", "ck", "x.ck", "y.x.ck", "www.ck", "a.www.ck", "1.2.3.4", "2.3.4", "x.1.2.3.4"}
	for _, h := range hosts {
		for _, d := range hosts {
			c, e := Make(rules(), told(t, "id=7; domain="+d), at(h), now)
			public, _ := suffix.Public(rules(), d)
			may := host.Match(h, d) && (public != d || h == d)
			if may != (e == api.OK) || !may && e != api.ErrBar || may && (c.Domain != d || c.HostOnly != (public == d)) {
				t.Errorf("for %q, %q sets %+v %d", d, h, c, e)
			}
		}
	}
}

// TestP2: rules and attributes are only read, the spare room behind them too, and are not kept.
func TestP2(t *testing.T) {
	l, was := rules(), rules()
	attrs := []api.Attr{{Name: "path", Value: "/x"}, {Name: "samesite", Value: "LAX"}, {Name: "secure"}}
	wasAttrs := slices.Clone(attrs)
	r := api.Raw{Name: "id", Value: "7", Attrs: attrs[:2]}
	want := plain(shop())
	want.Path, want.Site = "/x", api.SiteLax
	makes(t, l[:2], r, shop(), now, want, api.OK)
	if !slices.Equal(l, was) || !slices.Equal(attrs, wasAttrs) {
		t.Errorf("what was handed in is changed: %v %q", l, attrs)
	}
	attrs[0].Value = "/y"
	want.Path = "/y"
	makes(t, l[:2], r, shop(), now, want, api.OK)
}

// TestP1P3: no call panics; with an error all else is zero; and what was asked between changes no answer.
func TestP1P3(t *testing.T) {
	texts := []string{"", "a", "A", "a.b", "/", "/a", " ", ";", "=", "\x00", "\xff", "-", "7", "domain", "path", "max-age", date}
	numbers := []int{math.MinInt, api.FirstMoment - 1, api.FirstMoment, 0, now, api.LastMoment, math.MaxInt}
	type answer struct {
		c  api.Cookie
		e  api.Errno
		f  api.Errno
		n  int
		ok bool
	}
	ask := func(r *rand.Rand) answer {
		l := make([]api.Suffix, r.Intn(3)*r.Intn(2))
		for i := range l {
			l[i] = api.Suffix{Kind: 1 + r.Intn(4), Name: pick(r, texts...)}
		}
		c := api.Raw{Name: pick(r, texts...), Value: pick(r, texts...), Attrs: make([]api.Attr, r.Intn(2)*r.Intn(3))}
		for i := range c.Attrs {
			c.Attrs[i] = api.Attr{Name: pick(r, texts...), Value: pick(r, texts...)}
		}
		f := api.From{Host: pick(r, texts...), Path: pick(r, texts...), Secure: r.Intn(2) == 0}
		var a answer
		n := pick(r, numbers...)
		a.c, a.e = Make(l, c, f, n)
		a.f = Ready(f, n)
		a.n, a.ok = Age(pick(r, texts...))
		if a.e != api.OK && a.c != (api.Cookie{}) || a.e == api.OK && a.f != api.OK || !a.ok && a.n != 0 {
			t.Fatalf("%v %q %+v %d: %+v", l, c, f, n, a)
		}
		return a
	}
	var first []answer
	for i := range 50000 {
		first = append(first, ask(rand.New(rand.NewSource(int64(i)))))
	}
	for i := len(first) - 1; i >= 0; i-- {
		if again := ask(rand.New(rand.NewSource(int64(i)))); again != first[i] {
			t.Errorf("first %+v, then %+v", first[i], again)
		}
	}
}

// TestP4: texts of millions of bytes are answered soon.
func TestP4(t *testing.T) {
	const n = 1 << 22
	begun := time.Now()
	digits, letters := strings.Repeat("7", n), strings.Repeat("a", n)
	age(t, digits, api.MaxAge, true)
	age(t, "-"+digits, -api.MaxAge, true)
	age(t, digits+"x", 0, false)
	ready(t, api.From{Host: letters, Path: "/"}, now, api.ErrForm)
	ready(t, api.From{Host: "a", Path: "/" + letters}, now, api.ErrForm)
	r := api.Raw{Name: letters, Value: letters, Attrs: []api.Attr{{Name: letters, Value: letters}, {Name: "samesite", Value: letters}, {Name: "expires", Value: letters}, {Name: "max-age", Value: digits}}}
	if c, e := Make(nil, r, shop(), now); e != api.OK || c.Name != letters || c.Value != letters || c.Expiry != api.LastMoment {
		t.Errorf("of long texts it answers %d", e)
	}
	r.Attrs[0] = api.Attr{Name: "domain", Value: letters}
	if _, e := Make(nil, r, shop(), now); e != api.ErrForm {
		t.Errorf("of a long domain it answers %d", e)
	}
	if d := time.Since(begun); d > time.Minute {
		t.Errorf("it took %v", d)
	}
}
