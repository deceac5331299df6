package line

import (
	"math"
	"math/rand"
	"slices"
	"strings"
	"testing"
	"time"

	"gingersnap/api"
)

func mk(name, path string, created, no int) api.Cookie {
	return api.Cookie{Name: name, Path: path, Created: created, No: no}
}

// named: a cookie that tells just a name and a value.
func named(name, value string) api.Cookie {
	return api.Cookie{Name: name, Value: value}
}

// names of cookies, one behind the other.
func names(l []api.Cookie) string {
	var out strings.Builder
	for _, c := range l {
		out.WriteString(c.Name)
	}
	return out.String()
}

// pairs: names and values, by turns.
func pairs(l ...string) []api.Attr {
	var out []api.Attr
	for i := 0; i+1 < len(l); i += 2 {
		out = append(out, api.Attr{Name: l[i], Value: l[i+1]})
	}
	return out
}

func TestJ1(t *testing.T) {
	for _, c := range []struct {
		l    []api.Cookie
		want string
	}{
		{nil, ""},
		{[]api.Cookie{}, ""},
		{[]api.Cookie{mk("a", "/", 1, 1)}, "a"},
		{[]api.Cookie{mk("a", "/", 1, 1), mk("b", "/x", 9, 9)}, "ba"},
		{[]api.Cookie{mk("a", "/x", 9, 9), mk("b", "/", 1, 1)}, "ab"},
		{[]api.Cookie{mk("a", "/a", 2, 1), mk("b", "/b", 1, 2)}, "ba"},
		{[]api.Cookie{mk("a", "/a", 1, 2), mk("b", "/b", 1, 1)}, "ba"},
		{[]api.Cookie{mk("b", "/b", 1, 1), mk("a", "/a", 1, 1)}, "ba"}, // neither names nor what paths say count
		{[]api.Cookie{mk("a", "/", 1, 1), mk("b", "/x", 9, 9), mk("c", "/x", 8, 8), mk("d", "/x", 8, 7)}, "dcba"},
		{[]api.Cookie{mk("a", "/", 5, 5), mk("b", "/", 5, 5), mk("c", "/", 4, 6), mk("d", "/", 5, 5)}, "cabd"},
		{[]api.Cookie{mk("a", "", 0, 0), mk("b", "\u00e4", 0, 0), mk("c", "/", 0, 0)}, "bca"}, // bytes are counted
		{[]api.Cookie{mk("a", "/", 0, 0), mk("b", "/", -1, 0), mk("c", "/", -1, -1)}, "cba"},
		{[]api.Cookie{mk("a", "/", math.MaxInt, 0), mk("b", "/", math.MinInt, 0), mk("c", "/", 0, 0)}, "bca"},
		{[]api.Cookie{mk("a", "/", 0, math.MaxInt), mk("b", "/", 0, math.MinInt), mk("c", "/", 0, 0)}, "bca"},
	} {
		if got := names(Sort(c.l)); got != c.want {
			t.Errorf("Sort(%+v) is %s, must be %s", c.l, got, c.want)
		}
	}
}

// before: is one cookie sent ahead of another, wherever they stand?
func before(a, b api.Cookie) bool {
	if len(a.Path) != len(b.Path) {
		return len(a.Path) > len(b.Path)
	}
	if a.Created != b.Created {
		return a.Created < b.Created
	}
	return a.No < b.No
}

// inserted: cookies sorted by putting each one in behind all that it is not sent ahead of.
func inserted(l []api.Cookie) []api.Cookie {
	var out []api.Cookie
	for _, c := range l {
		at := len(out)
		for at > 0 && before(c, out[at-1]) {
			at--
		}
		out = slices.Insert(out, at, c)
	}
	return out
}

func pick[T any](r *rand.Rand, l ...T) T { return l[r.Intn(len(l))] }

// scraps: cookies of few paths and numbers, so that many are alike, with all that they tell.
func scraps(r *rand.Rand, n int) []api.Cookie {
	out := make([]api.Cookie, n)
	for i := range out {
		out[i] = api.Cookie{Name: pick(r, "a", "b", ""), Value: pick(r, "", "7", "="), Domain: pick(r, "a.com", "b.com"), Path: pick(r, "/", "/x", "/y", "/x/y", ""), HostOnly: r.Intn(2) == 0, Secure: r.Intn(2) == 0, HttpOnly: r.Intn(2) == 0, Lasting: r.Intn(2) == 0, Site: r.Intn(4), Expiry: r.Intn(3), Created: pick(r, 1, 2, math.MinInt, math.MaxInt), Used: i, No: pick(r, 0, 1, math.MinInt, math.MaxInt)}
	}
	return out
}

// TestJ1Scraps: as cookies put in one by one stand, those alike as they stood; all of each is kept.
func TestJ1Scraps(t *testing.T) {
	r := rand.New(rand.NewSource(3))
	for range 3000 {
		l := scraps(r, r.Intn(80))
		want, got := inserted(l), Sort(l)
		if !slices.Equal(got, want) {
			t.Fatalf("Sort(%+v) is %+v", l, got)
		}
		if !slices.Equal(Sort(got), got) {
			t.Fatalf("sorted twice, %+v is otherwise", got)
		}
	}
}

func TestJ2Write(t *testing.T) {
	for _, c := range []struct {
		l    []api.Cookie
		want string
	}{
		{nil, ""},
		{[]api.Cookie{}, ""},
		{[]api.Cookie{{}}, "="},
		{[]api.Cookie{{}, {}}, "=; ="},
		{[]api.Cookie{named("a", "b")}, "a=b"},
		{[]api.Cookie{named("a", "")}, "a="},
		{[]api.Cookie{named("", "b")}, "=b"},
		{[]api.Cookie{named("id", "7"), named("A", "B"), named("id", "8")}, "id=7; A=B; id=8"},
		{[]api.Cookie{named("a=", "=b"), named("a;", ";b")}, "a===b; a;=;b"},
		{[]api.Cookie{named(" a ", " b\t"), named("\xff", "\x00\n")}, " a = b\t; \xff=\x00\n"},
		{[]api.Cookie{mk("b", "/", 9, 9), mk("a", "/longer", 1, 1)}, "b=; a="}, // as they stand
		{[]api.Cookie{{Name: "a", Value: "b", Domain: "c", Path: "d", HostOnly: true, Secure: true, HttpOnly: true, Lasting: true, Site: 1, Expiry: 2, Created: 3, Used: 4, No: 5}}, "a=b"},
	} {
		if got := Write(c.l); got != c.want {
			t.Errorf("Write(%+v) is %q, must be %q", c.l, got, c.want)
		}
	}
}

func reads(t *testing.T, s string, want []api.Attr, e api.Errno) {
	t.Helper()
	if got, f := Read(s); !slices.Equal(got, want) || f != e {
		t.Errorf("Read(%.50q) is %.50q %d, must be %.50q %d", s, got, f, want, e)
	}
}

func TestJ2Read(t *testing.T) {
	reads(t, "", nil, api.OK)
	reads(t, "a=b", pairs("a", "b"), api.OK)
	reads(t, "a=", pairs("a", ""), api.OK)
	reads(t, "a==", pairs("a", "="), api.OK)
	reads(t, "a=b=c", pairs("a", "b=c"), api.OK)
	reads(t, "a=b; c=d", pairs("a", "b", "c", "d"), api.OK)
	reads(t, "a=b; c=d; a=b", pairs("a", "b", "c", "d", "a", "b"), api.OK)
	reads(t, "Id=V; ID=v", pairs("Id", "V", "ID", "v"), api.OK) // nothing is folded
	reads(t, "a=b;  c=d", pairs("a", "b", " c", "d"), api.OK)   // one blank is left away
	reads(t, " a=b", pairs(" a", "b"), api.OK)                  // of the first one none
	reads(t, " =b;  =d", pairs(" ", "b", " ", "d"), api.OK)     // a blank is a name
	reads(t, "a = b ; c\t=\td\t", pairs("a ", " b ", "c\t", "\td\t"), api.OK)
	reads(t, "\ta=b; \tc=d", pairs("\ta", "b", "\tc", "d"), api.OK)
	reads(t, "\x00=\n; \xff=\xc3\xa4\x7f", pairs("\x00", "\n", "\xff", "\xc3\xa4\x7f"), api.OK)
	reads(t, "\"a=b\", c", pairs("\"a", "b\", c"), api.OK)
}

func TestJ2Form(t *testing.T) {
	for _, s := range []string{"a", " ", "ab c", "\xff", // no byte 61
		"a=b; c", "a; b=c", "a=b; ", "a=b; ; c=d", "a=b; c; d=e", "a; b",
		"a=b;c=d", "a=b;\tc=d", "a=b;\nc=d", "a=b;\u00a0c=d", "a=b; c=d;e=f", "a=b;=c", // no blank
		"a=b;", ";", "; ", ";;", "; a=b", ";a=b", "a=b;; c=d", "a=b; c=d;",
		"=", "=b", "==", "==b", "a=b; =", "a=b; =d", "=b; c=d", "a=b; c=d; =f"} { // no name
		reads(t, s, nil, api.ErrForm)
	}
}

// TestJ2Many: a line has at most 20 times MaxText bytes, whatever stands in it.
func TestJ2Many(t *testing.T) {
	const most = 8000
	long := strings.Repeat("a", most)
	reads(t, long[1:]+"=", pairs(long[1:], ""), api.OK)
	reads(t, "a="+long[2:], pairs("a", long[2:]), api.OK)
	reads(t, long, nil, api.ErrForm)
	for _, s := range []string{long + "=", long + "a", "a=" + long[1:], "=" + long, long + ";", strings.Repeat(";", most+1), strings.Repeat(" ", 1<<20)} {
		reads(t, s, nil, api.ErrMany)
	}
	reads(t, strings.Repeat("a=; ", most/4-1)+"a=bc", append(slices.Repeat(pairs("a", ""), most/4-1), pairs("a", "bc")...), api.OK)
	reads(t, strings.Repeat("a=; ", most/4)+"a=", nil, api.ErrMany)
	reads(t, strings.Repeat(";", most), nil, api.ErrForm)
}

// text of n bytes at most, each one of these.
func text(r *rand.Rand, bytes string, n int) string {
	out := make([]byte, r.Intn(n+1))
	for i := range out {
		out[i] = bytes[r.Intn(len(bytes))]
	}
	return string(out)
}

// TestJ2Scraps: what is read is written as it was; what is not read is no line of names and values.
func TestJ2Scraps(t *testing.T) {
	r := rand.New(rand.NewSource(4))
	count := map[api.Errno]int{}
	for range 300000 {
		s := text(r, "; ==aab\t", 9)
		got, e := Read(s)
		count[e]++
		good := s == "" || !slices.ContainsFunc(strings.Split("; "+s, ";")[1:], func(p string) bool {
			return len(p) < 3 || p[0] != ' ' || p[1] == '=' || strings.Count(p, "=") == 0
		})
		if good != (e == api.OK) || !good && (e != api.ErrForm || len(got) > 0) {
			t.Fatalf("Read(%q) is %q %d", s, got, e)
		}
		var l []api.Cookie
		for _, a := range got {
			if a.Name == "" || strings.ContainsAny(a.Name, "=;") || strings.Contains(a.Value, ";") {
				t.Fatalf("Read(%q) is %q", s, got)
			}
			l = append(l, named(a.Name, a.Value))
		}
		if again := Write(l); good && again != s {
			t.Fatalf("%q, read and written, is %q", s, again)
		}
	}
	if count[api.OK] < 10000 || count[api.ErrForm] < 10000 {
		t.Errorf("of each answer there are %v", count)
	}
}

// TestJ3: names and values that may stand in a line are read as they were.
func TestJ3(t *testing.T) {
	r := rand.New(rand.NewSource(5))
	const forNames, forValues = " \tabAZ0\"\\,\x00\n\x7f\xff\xc3\xa4", " \tabAZ0\"\\,\x00\n\x7f\xff\xc3\xa4===="
	for range 50000 {
		var l []api.Cookie
		var want []api.Attr
		for range r.Intn(6) {
			c := named(pick(r, " ", "a", "\xff", "\t")+text(r, forNames, 6), text(r, forValues, 6))
			l, want = append(l, c), append(want, api.Attr{Name: c.Name, Value: c.Value})
		}
		reads(t, Write(l), want, api.OK)
	}
	for b := range 256 {
		s := string([]byte{byte(b)})
		if s != ";" {
			reads(t, Write([]api.Cookie{named("a", s), named("b", s)}), pairs("a", s, "b", s), api.OK)
		}
		if s != ";" && s != "=" {
			reads(t, Write([]api.Cookie{named(s, "a"), named(s, s)}), pairs(s, "a", s, s), api.OK)
		}
	}
}

// TestP2: what is handed in is only read, the spare room behind it too, and no answer shares memory with it, or with another one.
func TestP2(t *testing.T) {
	whole := scraps(rand.New(rand.NewSource(6)), 20)
	was := slices.Clone(whole)
	first, second := Sort(whole[:15]), Sort(whole[:15])
	text := Write(whole[:15])
	if !slices.Equal(whole, was) {
		t.Fatal("what was handed in is changed")
	}
	kept := slices.Clone(second)
	for i := range first {
		first[i] = api.Cookie{}
	}
	_ = append(first, api.Cookie{Name: "new"})
	if !slices.Equal(whole, was) || !slices.Equal(second, kept) || Write(whole[:15]) != text {
		t.Error("an answer shares memory")
	}
	for i := range whole {
		whole[i].Name = "changed"
	}
	if !slices.Equal(second, kept) {
		t.Error("an answer changes with what was handed in")
	}
	if _ = append(Sort(whole[:0]), api.Cookie{Name: "new"}); whole[0].Name != "changed" {
		t.Error("an empty answer shares the room behind what was handed in")
	}
	a, _ := Read("a=b; c=d")
	b, _ := Read("a=b; c=d")
	a[0].Name = "x"
	if b[0].Name != "a" {
		t.Error("two answers of Read share memory")
	}
}

// TestP1P3: no call panics; with an error there is nothing else; and what was asked between changes no answer.
func TestP1P3(t *testing.T) {
	ask := func(i int) string {
		r := rand.New(rand.NewSource(int64(i)))
		s := Write(Sort(scraps(r, r.Intn(9))))
		for _, s := range []string{s, text(r, ";= a\xff", 12)} {
			got, e := Read(s)
			if e != api.OK && len(got) > 0 {
				t.Fatalf("Read(%q) is %q %d", s, got, e)
			}
			for _, a := range got {
				s += "|" + a.Name + "|" + a.Value
			}
		}
		return s
	}
	var first []string
	for i := range 20000 {
		first = append(first, ask(i))
	}
	for i := len(first) - 1; i >= 0; i-- {
		if again := ask(i); again != first[i] {
			t.Errorf("first %q, then %q", first[i], again)
		}
	}
}

// TestP4: many cookies, and texts of millions of bytes, are answered soon.
func TestP4(t *testing.T) {
	begun := time.Now()
	l := scraps(rand.New(rand.NewSource(8)), 1<<17)
	got := Sort(l)
	for i := range len(got) - 1 {
		a, b := got[i], got[i+1]
		if before(b, a) || !before(a, b) && a.Used > b.Used {
			t.Fatalf("%+v stands ahead of %+v", a, b)
		}
	}
	size := 2 * (len(l) - 1)
	for _, c := range l {
		size += len(c.Name) + 1 + len(c.Value)
	}
	if n := len(Write(got)); n != size {
		t.Errorf("%d bytes are written, must be %d", n, size)
	}
	long := strings.Repeat("a=b; ", 1<<22)
	reads(t, long, nil, api.ErrMany)
	if s := Write([]api.Cookie{named(long, long)}); s != long+"="+long {
		t.Error("a long cookie is written otherwise than a short one")
	}
	if d := time.Since(begun); d > time.Minute {
		t.Errorf("it took %v", d)
	}
}
