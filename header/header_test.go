package header

import (
	"math/rand"
	"reflect"
	"regexp"
	"slices"
	"strings"
	"testing"
	"time"

	"gingersnap/api"
)

// attrs: names and values, by turns.
func attrs(l ...string) []api.Attr {
	var out []api.Attr
	for i := 0; i+1 < len(l); i += 2 {
		out = append(out, api.Attr{Name: l[i], Value: l[i+1]})
	}
	return out
}

func many(n int) []api.Attr {
	return slices.Repeat(attrs("x", ""), n)
}

func raw(name, value string, l ...string) api.Raw {
	return api.Raw{Name: name, Value: value, Attrs: attrs(l...)}
}

func same(a, b api.Raw) bool {
	return a.Name == b.Name && a.Value == b.Value && slices.Equal(a.Attrs, b.Attrs)
}

func read(t *testing.T, s string, want api.Raw, e api.Errno) {
	t.Helper()
	if got, f := Read(s); !same(got, want) || f != e {
		t.Errorf("Read(%q) is %q %d, must be %q %d", s, got, f, want, e)
	}
}

// bad: a text that is read with an error.
func bad(t *testing.T, s string, e api.Errno) {
	t.Helper()
	read(t, s, api.Raw{}, e)
}

// write a cookie, which is checked too.
func write(t *testing.T, r api.Raw, check api.Errno, want string, e api.Errno) {
	t.Helper()
	if got := Check(r); got != check {
		t.Errorf("Check(%q) is %d, must be %d", r, got, check)
	}
	if got, f := Write(r); got != want || f != e {
		t.Errorf("Write(%q) is %q %d, must be %q %d", r, got, f, want, e)
	}
}

func wrong(t *testing.T, r api.Raw, e api.Errno) {
	t.Helper()
	write(t, r, e, "", e)
}

// letThrough: the bytes that a header may have, told one by one.
func letThrough(b byte) bool {
	return b == 9 || 32 <= b && b <= 126 || b >= 128
}

func TestG1Good(t *testing.T) {
	read(t, "a=b", raw("a", "b"), api.OK)
	read(t, "id=7; domain=shop.com; secure", raw("id", "7", "domain", "shop.com", "secure", ""), api.OK)
	read(t, "Id=V; Path=/X; SECURE; Max-Age=60", raw("Id", "V", "path", "/X", "secure", "", "max-age", "60"), api.OK)
	read(t, "a=", raw("a", ""), api.OK)
	read(t, "a= \t ", raw("a", ""), api.OK)
	read(t, "a==", raw("a", "="), api.OK)
	read(t, "a=b=c", raw("a", "b=c"), api.OK)
	read(t, "a= =b", raw("a", "=b"), api.OK)
	read(t, "\t a \t=\t b \t", raw("a", "b"), api.OK)
	read(t, "a b = c d ", raw("a b", "c d"), api.OK)
	read(t, "a\tb=c\td", raw("a\tb", "c\td"), api.OK)
	read(t, "\"a\"=\"b, c\"", raw("\"a\"", "\"b, c\""), api.OK)
	read(t, "\xff=\xc3\xa4", raw("\xff", "\xc3\xa4"), api.OK)
	read(t, "\u00a0=\u2003", raw("\u00a0", "\u2003"), api.OK) // no blanks of this kind
}

func TestG1Attrs(t *testing.T) {
	read(t, "a=b;x", raw("a", "b", "x", ""), api.OK)
	read(t, "a=b;x=", raw("a", "b", "x", ""), api.OK)
	read(t, "a=b;x=y=z", raw("a", "b", "x", "y=z"), api.OK)
	read(t, "a=b;x==", raw("a", "b", "x", "="), api.OK)
	read(t, "a=b;\t X Y\t=\tZ W ", raw("a", "b", "x y", "Z W"), api.OK)
	read(t, "a=b;x=1;x=2;X=3", raw("a", "b", "x", "1", "x", "2", "x", "3"), api.OK)
	read(t, "a=b;B;a;C", raw("a", "b", "b", "", "a", "", "c", ""), api.OK)
	read(t, "a=b;\u00c4=\u00c4", raw("a", "b", "\u00c4", "\u00c4"), api.OK) // only A to Z are folded
	read(t, "a=b;@[`{=@[`{", raw("a", "b", "@[`{", "@[`{"), api.OK)
	for _, s := range []string{"a=b;", "a=b;;", "a=b; ; \t ;", "a=b;=", "a=b;=z", "a=b; \t = z;==;"} {
		read(t, s, raw("a", "b"), api.OK)
	}
	read(t, "a=b;;x;=;y;", raw("a", "b", "x", "", "y", ""), api.OK)
}

func TestG1Form(t *testing.T) {
	for _, s := range []string{"", " ", "a", "a b", "=", "=b", " =b", "\t=\t", ";", ";a=b", " ;a=b", "a;b=c", "a;=", "=;a=b", "==b"} {
		bad(t, s, api.ErrForm)
	}
}

func TestG1Bytes(t *testing.T) {
	for i := range 256 {
		b := string([]byte{byte(i)})
		for _, s := range []string{"a" + b + "z=v", "a=v" + b + "z", "a=v;x" + b + "z", "a=v;x=y" + b + "z", "a=v" + b, "a=v;" + b, "a=v;=" + b} {
			r, e := Read(s)
			if letThrough(byte(i)) != (e == api.OK) && b != ";" {
				t.Errorf("Read(%q) is %q %d", s, r, e)
			}
		}
		if letThrough(byte(i)) && !strings.Contains(";= \t", b) {
			read(t, b+"="+b, raw(b, b), api.OK)
		}
	}
}

func TestG1Many(t *testing.T) {
	long := strings.Repeat("a", api.MaxText-1)
	read(t, long+"=", raw(long, ""), api.OK)
	read(t, "a="+long[1:], raw("a", long[1:]), api.OK)
	bad(t, long+"=a", api.ErrMany)
	bad(t, "a=b"+strings.Repeat(" ", api.MaxText), api.ErrMany) // ahead of trimming
	bad(t, "a=b"+strings.Repeat(";", api.MaxText), api.ErrMany)
	read(t, "a=b"+strings.Repeat(";", api.MaxText-3), raw("a", "b"), api.OK)
	read(t, "a=b"+strings.Repeat(" ", api.MaxText-3), raw("a", "b"), api.OK)
	read(t, "a=b"+strings.Repeat(";x", api.MaxAttrs), api.Raw{Name: "a", Value: "b", Attrs: many(api.MaxAttrs)}, api.OK)
	read(t, "a=b"+strings.Repeat(";x;;=y; ", api.MaxAttrs), api.Raw{Name: "a", Value: "b", Attrs: many(api.MaxAttrs)}, api.OK)
	bad(t, "a=b"+strings.Repeat(";x", api.MaxAttrs+1), api.ErrMany)
	bad(t, "a=b"+strings.Repeat(";x=y;", api.MaxAttrs+1), api.ErrMany)
}

// TestG1Order: of several errors the one that is named first.
func TestG1Order(t *testing.T) {
	bad(t, strings.Repeat("\x00", api.MaxText+1), api.ErrMany)
	bad(t, strings.Repeat("a", api.MaxText+1), api.ErrMany)
	bad(t, strings.Repeat("a", api.MaxText), api.ErrForm)
	bad(t, "a=b\x00"+strings.Repeat(";x", api.MaxAttrs+1), api.ErrForm)
	bad(t, "a=b"+strings.Repeat(";x", api.MaxAttrs+1)+"\x7f", api.ErrForm)
	bad(t, "a"+strings.Repeat(";x", api.MaxAttrs+1), api.ErrForm)
	bad(t, "=b"+strings.Repeat(";x", api.MaxAttrs+1), api.ErrForm)
}

func TestG2Good(t *testing.T) {
	write(t, raw("a", "b"), api.OK, "a=b", api.OK)
	write(t, raw("a", ""), api.OK, "a=", api.OK)
	write(t, raw("A B", "=C D="), api.OK, "A B==C D=", api.OK)
	write(t, raw("id", "7", "domain", "Shop.com", "secure", ""), api.OK, "id=7; domain=Shop.com; secure", api.OK)
	write(t, raw("a", "b", "x", "=", "x", "", "y z", "1\t2"), api.OK, "a=b; x==; x; y z=1\t2", api.OK)
	write(t, raw("\xff", "\x80", "\xc3\x84", "\xfe"), api.OK, "\xff=\x80; \xc3\x84=\xfe", api.OK)
	write(t, api.Raw{Name: "a", Attrs: []api.Attr{}}, api.OK, "a=", api.OK)
}

func TestG2Form(t *testing.T) {
	for _, r := range []api.Raw{
		{}, raw("", "b"), raw("", "", "x", "y"),
		raw("=", ""), raw("a=", ""), raw("=a", ""), raw("a=b", "c"),
		raw(" a", ""), raw("a ", ""), raw("\ta", ""), raw("a\t", ""), raw(" ", ""),
		raw("a", " b"), raw("a", "b "), raw("a", "\tb"), raw("a", "b\t"), raw("a", " "), raw("a", "\t"),
		raw("a;", ""), raw(";", ""), raw("a", "b;"), raw("a", ";"),
		raw("a", "b", "", ""), raw("a", "b", "", "y"), raw("a", "b", "x", "y", "", "z"),
		raw("a", "b", " x", ""), raw("a", "b", "x ", ""), raw("a", "b", "x\t", "y"), raw("a", "b", " ", ""),
		raw("a", "b", "x", " y"), raw("a", "b", "x", "y "), raw("a", "b", "x", "\t"),
		raw("a", "b", "X", "y"), raw("a", "b", "xyZ", ""), raw("a", "b", "A", ""), raw("a", "b", "x", "", "Secure", ""),
		raw("a", "b", "x=", "y"), raw("a", "b", "=", "y"), raw("a", "b", "x=y", ""),
		raw("a", "b", "x;", ""), raw("a", "b", "x", "y;z"), raw("a", "b", "x", ";"),
	} {
		wrong(t, r, api.ErrForm)
	}
}

func TestG2Bytes(t *testing.T) {
	for i := range 256 {
		s := "x" + string([]byte{byte(i)}) + "y"
		may := letThrough(byte(i)) && i != 59
		for _, c := range []struct {
			r    api.Raw
			may  bool
			text string
		}{
			{raw(s, "v"), may && i != 61, s + "=v"},
			{raw("a", s), may, "a=" + s},
			{raw("a", "v", s, "w"), may && i != 61 && (i < 65 || i > 90), "a=v; " + s + "=w"},
			{raw("a", "v", "b", "", "w", s), may, "a=v; b; w=" + s},
		} {
			if c.may {
				write(t, c.r, api.OK, c.text, api.OK)
			} else {
				wrong(t, c.r, api.ErrForm)
			}
		}
	}
}

func TestG2Many(t *testing.T) {
	r := raw("a", "b")
	r.Attrs = many(api.MaxAttrs)
	write(t, r, api.OK, "a=b"+strings.Repeat("; x", api.MaxAttrs), api.OK)
	r.Attrs = many(api.MaxAttrs + 1)
	wrong(t, r, api.ErrMany)
	for i := range r.Attrs { // whichever is bad, that is named first
		r.Attrs = many(api.MaxAttrs + 1)
		r.Attrs[i].Name = "X"
		wrong(t, r, api.ErrForm)
	}
	r = api.Raw{Attrs: many(api.MaxAttrs + 1)}
	wrong(t, r, api.ErrForm)
}

// TestG2Long: whatever it is that makes the text too long, Check does not mind.
func TestG2Long(t *testing.T) {
	for _, n := range []int{api.MaxText - 1, api.MaxText, api.MaxText + 1, 2 * api.MaxText, 3 * api.MaxText} {
		for _, c := range []struct {
			of   func(string) api.Raw
			text string
		}{
			{func(s string) api.Raw { return raw(s, "") }, "@="},
			{func(s string) api.Raw { return raw("n", s) }, "n=@"},
			{func(s string) api.Raw { return raw("n", "v", s, "") }, "n=v; @"},
			{func(s string) api.Raw { return raw("n", "v", s, "w") }, "n=v; @=w"},
			{func(s string) api.Raw { return raw("n", "v", "x", s) }, "n=v; x=@"},
			{func(s string) api.Raw { return raw("n", "v", "x", s, "y", "") }, "n=v; x=@; y"},
			{func(s string) api.Raw { return raw("n", s, "x", "w") }, "n=@; x=w"},
		} {
			s := strings.Repeat("b", n+1-len(c.text))
			if n > api.MaxText {
				write(t, c.of(s), api.OK, "", api.ErrMany)
				continue
			}
			write(t, c.of(s), api.OK, strings.Replace(c.text, "@", s, 1), api.OK)
		}
	}
	r := raw("n", strings.Repeat("b", api.MaxText), "X", "")
	wrong(t, r, api.ErrForm) // Check is ahead
}

// scrap: a text of bytes that most often may be written.
func scrap(r *rand.Rand, most int) string {
	const signs = "abcXYZ019-.,/\"\t  ==;\xff\xc3\x01"
	s := make([]byte, r.Intn(most+1))
	for i := range s {
		s[i] = 'a' + byte(r.Intn(3))
		if r.Intn(most) == 0 {
			s[i] = signs[r.Intn(len(signs))]
		}
	}
	return string(s)
}

func scraps(r *rand.Rand) api.Raw {
	most := 4
	if r.Intn(10) == 0 {
		most = 200
	}
	out := raw(scrap(r, most), scrap(r, most))
	for range r.Intn(4) * r.Intn(5) {
		out.Attrs = append(out.Attrs, api.Attr{Name: scrap(r, most), Value: scrap(r, most)})
	}
	return out
}

// model of Check, by patterns.
var (
	name  = regexp.MustCompile(`^(?s:[^\x00-\x20\x7f;=]|[^\x00-\x20\x7f;=][^\x00-\x08\x0a-\x1f\x7f;=]*[^\x00-\x20\x7f;=])$`)
	value = regexp.MustCompile(`^(?s:|[^\x00-\x20\x7f;]|[^\x00-\x20\x7f;][^\x00-\x08\x0a-\x1f\x7f;]*[^\x00-\x20\x7f;])$`)
)

func modelCheck(r api.Raw) api.Errno {
	good := name.MatchString(r.Name) && value.MatchString(r.Value)
	for _, a := range r.Attrs {
		good = good && name.MatchString(a.Name) && value.MatchString(a.Value) && !strings.ContainsAny(a.Name, "ABCDEFGHIJKLMNOPQRSTUVWXYZ")
	}
	switch {
	case !good:
		return api.ErrForm
	case len(r.Attrs) > api.MaxAttrs:
		return api.ErrMany
	}
	return api.OK
}

// modelRead: by what the library has for it, on texts that have nothing that Read does not let through.
func modelRead(s string) (api.Raw, api.Errno) {
	var out api.Raw
	for i, p := range strings.Split(s, ";") {
		n, v, ok := strings.Cut(p, "=")
		n, v = strings.Trim(n, " \t"), strings.Trim(v, " \t")
		switch {
		case i == 0 && (!ok || n == ""):
			return api.Raw{}, api.ErrForm
		case i == 0:
			out.Name, out.Value = n, v
		case n != "":
			out.Attrs = append(out.Attrs, api.Attr{Name: strings.Map(lower, n), Value: v})
		}
	}
	if len(out.Attrs) > api.MaxAttrs {
		return api.Raw{}, api.ErrMany
	}
	return out, api.OK
}

func lower(c rune) rune {
	if 'A' <= c && c <= 'Z' {
		return c + 32
	}
	return c
}

// TestG1Scraps: as the library parts and trims it; and what is read may be written, if that is not too long.
func TestG1Scraps(t *testing.T) {
	r := rand.New(rand.NewSource(1))
	for range 50000 {
		var s string
		for range r.Intn(16) {
			s += []string{"a", "B=c", ";", "; ", "=", " ", "\t", "x=y;", "Q ", "\"/\""}[r.Intn(10)]
		}
		want, e := modelRead(s)
		read(t, s, want, e)
		if e != api.OK {
			continue
		}
		text, e := Write(want)
		if f := Check(want); f != api.OK || e != api.OK {
			t.Fatalf("%q is read, but is checked as %d, written as %q %d", s, f, text, e)
		}
		read(t, text, want, api.OK)
	}
}

// TestG2G3Scraps: what is written is read as it was.
func TestG2G3Scraps(t *testing.T) {
	r := rand.New(rand.NewSource(2))
	written, long := 0, 0
	for range 100000 {
		c := scraps(r)
		e := Check(c)
		if want := modelCheck(c); e != want {
			t.Fatalf("Check(%q) is %d, must be %d", c, e, want)
		}
		s, f := Write(c)
		switch {
		case e != api.OK:
			if f != e || s != "" {
				t.Fatalf("Write(%q) is %q %d, must be %d", c, s, f, e)
			}
		case f == api.OK:
			written++
			read(t, s, c, api.OK)
		default:
			long++
			if f != api.ErrMany || s != "" {
				t.Fatalf("Write(%q) is %q %d", c, s, f)
			}
		}
	}
	if written < 1000 || long < 10 {
		t.Errorf("only %d were written, and %d too long", written, long)
	}
}

// TestG3: ordinary ones, and edges.
func TestG3(t *testing.T) {
	for _, c := range []api.Raw{
		raw("a", ""), raw("a", "="), raw("a", "b", "x", ""), raw("a", "b", "x", "="), raw("a", "b", "x", "x=x"),
		raw("__Host-id", "7", "path", "/", "secure", ""), raw("a", "b", "x", "", "x", "", "x", "y"),
		raw("\"", "\"\"", "\xff", "\xff"), raw("a\tb", "c \t d", "e \t f", "G \t H"),
		{Name: "a", Value: "b", Attrs: many(api.MaxAttrs)}, raw(strings.Repeat("a", 399), ""), raw("a", strings.Repeat("b", 398)),
	} {
		s, e := Write(c)
		if e != api.OK {
			t.Errorf("Write(%q) is %d", c, e)
		}
		read(t, s, c, api.OK)
	}
}

// TestP1: with an error nothing else is answered, and no text makes a call panic.
func TestP1(t *testing.T) {
	r := rand.New(rand.NewSource(3))
	for range 50000 {
		s := make([]byte, r.Intn(12))
		for i := range s {
			s[i] = byte(r.Intn(256))
			if r.Intn(2) == 0 {
				s[i] = ";= \taX\x7f\x00"[r.Intn(8)]
			}
		}
		if c, e := Read(string(s)); e != api.OK && (c.Name != "" || c.Value != "" || len(c.Attrs) > 0) {
			t.Fatalf("Read(%q) is %q %d", s, c, e)
		}
		c := raw(string(s), string(s), string(s), string(s))
		if got, want := Check(c), modelCheck(c); got != want {
			t.Fatalf("Check(%q) is %d, must be %d", c, got, want)
		}
	}
}

// TestP2: attributes are only read, the spare room behind them too; those that are answered are the caller's.
func TestP2(t *testing.T) {
	whole := attrs("x", "y", "z", "", "spare", "room")
	was := slices.Clone(whole)
	c := api.Raw{Name: "a", Value: "b", Attrs: whole[:2]}
	write(t, c, api.OK, "a=b; x=y; z", api.OK)
	if !slices.Equal(whole, was) {
		t.Errorf("what was handed in is changed: %q", whole)
	}
	whole[0].Value = "other"
	write(t, c, api.OK, "a=b; x=other; z", api.OK)

	one, _ := Read("a=b; x=y; z")
	two, _ := Read("a=b; x=y; z")
	one.Attrs[0] = api.Attr{Name: "changed"}
	_ = append(one.Attrs[:1], attrs("changed", "too")...)
	if want := raw("a", "b", "x", "y", "z", ""); !same(two, want) {
		t.Errorf("it is %q, must be %q", two, want)
	}
	read(t, "a=b; x=y; z", raw("a", "b", "x", "y", "z", ""), api.OK)
}

// TestP3: what was asked between changes no answer.
func TestP3(t *testing.T) {
	texts := []string{"a=b", "", "a=b; X=y; z", "a\x00=b", strings.Repeat("a=b;x;", 13), strings.Repeat("a", 500)}
	ask := func(s string) []any {
		r, e := Read(s)
		text, f := Write(r)
		return []any{r, e, Check(r), text, f}
	}
	var first [][]any
	for _, s := range texts {
		first = append(first, ask(s))
	}
	for i := len(texts) - 1; i >= 0; i-- {
		if again := ask(texts[i]); !reflect.DeepEqual(again, first[i]) {
			t.Errorf("%q: first %v, then %v", texts[i], first[i], again)
		}
	}
}

// TestP4: millions of attributes, and texts of millions of bytes, are answered soon.
func TestP4(t *testing.T) {
	const n = 1 << 22
	begun := time.Now()
	s := strings.Repeat("a", n)
	if _, e := Read(s); e != api.ErrMany {
		t.Errorf("a long text is read as %d", e)
	}
	for _, c := range []api.Raw{raw(s, s), raw("a", s), raw("a", "", s, s), raw("a", "", "x", s)} {
		text, f := Write(c)
		if e := Check(c); e != api.OK || text != "" || f != api.ErrMany {
			t.Errorf("long texts are checked as %d, written as %d bytes %d", e, len(text), f)
		}
	}
	c := api.Raw{Name: "a", Attrs: many(n)}
	if e := Check(c); e != api.ErrMany {
		t.Errorf("%d attributes are checked as %d", n, e)
	}
	c.Attrs[n-1].Name = ""
	if e := Check(c); e != api.ErrForm {
		t.Errorf("%d attributes with a bad last one are checked as %d", n, e)
	}
	if d := time.Since(begun); d > time.Minute {
		t.Errorf("it took %v", d)
	}
}
