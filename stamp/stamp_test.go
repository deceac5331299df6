package stamp

import (
	"fmt"
	"math"
	"math/rand"
	"regexp"
	"strconv"
	"strings"
	"testing"
	"time"

	"gingersnap/api"
	"gingersnap/clock"
)

// answer of Read.
type answer struct {
	n int
	e api.Errno
}

func read(s string) answer {
	n, e := Read(s)
	return answer{n, e}
}

// at: the answer for a time that is told well.
func at(y, mon, d, h, min, s int) answer {
	return answer{int(time.Date(y, time.Month(mon), d, h, min, s, 0, time.UTC).Unix()), api.OK}
}

var noForm, noRange, tooMany = answer{0, api.ErrForm}, answer{0, api.ErrRange}, answer{0, api.ErrMany}

type asked struct {
	s    string
	want answer
}

func check(t *testing.T, l []asked) {
	t.Helper()
	for _, c := range l {
		if got := read(c.s); got != c.want {
			t.Errorf("Read(%q) is %v, must be %v", c.s, got, c.want)
		}
	}
}

func TestC1Usual(t *testing.T) {
	want := at(1994, 11, 6, 8, 49, 37)
	check(t, []asked{
		{"Sun, 06 Nov 1994 08:49:37 GMT", want},
		{"Sunday, 06-Nov-94 08:49:37 GMT", want},
		{"Sun Nov  6 08:49:37 1994", want},
		{"08:49:37 6 1994 nov", want},
		{"NOVEMBER;6;94;8:49:37", want},
		{"nOv@6@94@8:49:37", want},
		{"\t~6~94~8:49:37~nov\t", want},
	})
}

// TestC1Parting: each byte between the day and the month parts them, or it doesn't; none but these.
func TestC1Parting(t *testing.T) {
	for b := range 256 {
		want := noForm
		if b == 9 || b >= 32 && b <= 47 || b >= 59 && b <= 64 || b >= 91 && b <= 96 || b >= 123 && b <= 126 {
			want = at(2000, 1, 1, 0, 0, 0)
		}
		by := string([]byte{byte(b)})
		check(t, []asked{
			{"1" + by + "jan 2000 0:0:0", want},
			{"1" + by + by + "jan 2000 0:0:0", want},
		})
	}
	check(t, []asked{
		{"1\u00a0jan 2000 0:0:0", noForm},
		{"1\u2003jan 2000 0:0:0", noForm},
		{"\u00fc 1 jan \xff 2000 0:0:0", at(2000, 1, 1, 0, 0, 0)},
		{"1\u00fc jan\xff 2000\xc3 0:0:0\x80", at(2000, 1, 1, 0, 0, 0)},
		{"\xc31 jan 2000 0:0:0", noForm},
	})
}

func TestC1TimeOfDay(t *testing.T) {
	for s, want := range map[string]answer{
		"0:0:0":        at(2000, 2, 1, 0, 0, 0),
		"1:2:3":        at(2000, 2, 1, 1, 2, 3),
		"01:02:03":     at(2000, 2, 1, 1, 2, 3),
		"1:02:3":       at(2000, 2, 1, 1, 2, 3),
		"23:59:59":     at(2000, 2, 1, 23, 59, 59),
		"23:59:59x":    at(2000, 2, 1, 23, 59, 59),
		"23:59:59:1":   at(2000, 2, 1, 23, 59, 59),
		"23:59:5:999":  at(2000, 2, 1, 23, 59, 5),
		"23:59:5\xff9": at(2000, 2, 1, 23, 59, 5),
		"24:0:0":       noRange,
		"0:60:0":       noRange,
		"0:0:60":       noRange,
		"99:99:99":     noRange,
		"000:0:0":      noForm,
		"0:000:0":      noForm,
		"0:0:000":      noForm,
		"0:0":          noForm,
		"0:0:":         noForm,
		":0:0:0":       noForm,
		"0::0":         noForm,
		":0:0":         noForm,
		"0:0:x":        noForm,
		"x0:0:0":       noForm,
		"0x:0:0":       noForm,
		"0:0x:0":       noForm,
		"0 :0:0":       noForm,
		"0.0.0":        noForm,
		"-1:0:0":       at(2000, 2, 1, 1, 0, 0), // a - parts
		"+1:0:0":       at(2000, 2, 1, 1, 0, 0),
	} {
		check(t, []asked{{"1 feb 2000 " + s, want}})
	}
}

func TestC1Day(t *testing.T) {
	for s, want := range map[string]answer{
		"1":     at(2000, 2, 1, 3, 4, 5),
		"01":    at(2000, 2, 1, 3, 4, 5),
		"29":    at(2000, 2, 29, 3, 4, 5),
		"1th":   at(2000, 2, 1, 3, 4, 5),
		"1:":    at(2000, 2, 1, 3, 4, 5),
		"1:2":   at(2000, 2, 1, 3, 4, 5),
		"1x9":   at(2000, 2, 1, 3, 4, 5),
		"0":     noRange,
		"00":    noRange,
		"30":    noRange,
		"99":    noRange,
		"001":   noForm,
		"x1":    noForm,
		"":      noForm,
		"first": noForm,
	} {
		check(t, []asked{{s + " feb 2000 3:4:5", want}})
	}
}

func TestC1Month(t *testing.T) {
	for i, m := range []string{"jan", "feb", "mar", "apr", "may", "jun", "jul", "aug", "sep", "oct", "nov", "dec"} {
		want := at(2001, i+1, 9, 3, 4, 5)
		for _, s := range []string{m, strings.ToUpper(m), strings.ToUpper(m[:1]) + m[1:], m + "uary", m + "\xff", m + "1", m + ":"} {
			check(t, []asked{{"9 " + s + " 2001 3:4:5", want}})
		}
		for _, s := range []string{"", m[:1], m[:2], m[1:], "x" + m, "1" + m, m[:2] + " " + m[2:], m[1:] + m[:1], "\xff" + m} {
			check(t, []asked{{"9 " + s + " 2001 3:4:5", noForm}})
		}
	}
	check(t, []asked{
		{"9 anf 2001 3:4:5", noForm},
		{"9 \u017fep 2001 3:4:5", noForm}, // a long s is folded to s by others
		{"9 jan feb 2001 3:4:5", at(2001, 1, 9, 3, 4, 5)},
	})
}

func TestC1Year(t *testing.T) {
	for n := range 10000 {
		y := n
		switch {
		case n <= 69:
			y += 2000
		case n <= 99:
			y += 1900
		}
		want := noRange
		if y >= 1601 {
			want = at(y, 3, 4, 5, 6, 7)
		}
		check(t, []asked{{fmt.Sprintf("4 mar %04d 5:6:7", n), want}})
		if n < 1000 {
			check(t, []asked{{fmt.Sprintf("4 mar %03dx 5:6:7", n), want}})
		}
		if n < 100 {
			check(t, []asked{{fmt.Sprintf("4 mar %02d 5:6:7", n), want}})
		}
	}
	for s, want := range map[string]answer{
		"5":           noForm,
		"5x":          noForm,
		"12345":       noForm,
		"02001":       noForm,
		"x2001":       noForm,
		"2001x":       at(2001, 3, 4, 5, 6, 7),
		"2001:":       at(2001, 3, 4, 5, 6, 7),
		"2001\xff":    at(2001, 3, 4, 5, 6, 7),
		"2001 2002":   at(2001, 3, 4, 5, 6, 7),
		"5 2001":      at(2001, 3, 4, 5, 6, 7),
		"20010 2002":  at(2002, 3, 4, 5, 6, 7),
		"5:06:7 2001": at(2001, 3, 4, 5, 6, 7),
	} {
		check(t, []asked{{"4 mar " + s + " 5:6:7", want}})
	}
}

// TestC1First: a word is the first thing that it may be, of those that none was yet.
func TestC1First(t *testing.T) {
	check(t, []asked{
		{"12 13 feb 14 15:16:17 18:19:20", at(2013, 2, 12, 15, 16, 17)},
		{"15:16:17 18:19:20 feb 14", at(2014, 2, 18, 15, 16, 17)},               // a second time of day is the day
		{"15:16:17 18:19:20 feb 21:22:23", at(2021, 2, 18, 15, 16, 17)},         // and a third one the year
		{"15:16:17 18 feb 2:22:23 21:22:23", at(2021, 2, 18, 15, 16, 17)},       // but not in one digit
		{"2014 3 feb 15:16:17", at(2014, 2, 3, 15, 16, 17)},                     // four digits are no day
		{"14 3 feb 15:16:17", noForm},                                           // two are, and the 3 is no year
		{"14 03 feb 15:16:17", at(2003, 2, 14, 15, 16, 17)},                     //
		{"feb mar 3 14 15:16:17", at(2014, 2, 3, 15, 16, 17)},                   // the second month says nothing
		{"3 feb 14 15:16:17 31 dec 99 23:59:59", at(2014, 2, 3, 15, 16, 17)},    // nor does what comes behind all four
		{"40 feb 14 15:16:17 3", noRange},                                       // the first day counts, though there is none
		{"3 feb 1500 15:16:17 2014", noRange},                                   // so does the first year
		{"3 feb 14 25:16:17 15:16:17", noRange},                                 // and the first time of day
		{"sunday 3 x feb y 14 z 15:16:17 gmt", at(2014, 2, 3, 15, 16, 17)},      //
		{strings.Repeat("x ", 150) + "3 feb 14 1:1:1", at(2014, 2, 3, 1, 1, 1)}, //
	})
}

func TestC2Many(t *testing.T) {
	const s = "1 jan 2000 0:0:0"
	good := at(2000, 1, 1, 0, 0, 0)
	check(t, []asked{
		{strings.Repeat(" ", api.MaxText-len(s)) + s, good},
		{s + strings.Repeat(" ", api.MaxText-len(s)), good},
		{strings.Repeat(" ", api.MaxText-len(s)+1) + s, tooMany},
		{s + strings.Repeat(" ", api.MaxText-len(s)+1), tooMany},
		{strings.Repeat(" ", api.MaxText), noForm},
		{strings.Repeat(" ", api.MaxText+1), tooMany},
		{"31 feb 2000 0:0:0" + strings.Repeat(" ", api.MaxText), tooMany},
		{strings.Repeat("9", api.MaxText), noForm},
		{strings.Repeat("\u00fc", api.MaxText/2), noForm},
		{strings.Repeat("\u00fc", api.MaxText/2+1), tooMany},
		{strings.Repeat("9", 1<<22), tooMany},
	})
}

// TestC2Form: one of the four is missing, though the others tell no time that there is.
func TestC2Form(t *testing.T) {
	four := []string{"40", "feb", "1500", "25:61:61"}
	check(t, []asked{{"", noForm}, {strings.Join(four, " "), noRange}})
	for i := range four {
		rest := append(append([]string{}, four[:i]...), four[i+1:]...)
		check(t, []asked{{strings.Join(rest, " "), noForm}, {four[i], noForm}})
	}
}

func TestC2Range(t *testing.T) {
	check(t, []asked{
		{"29 feb 2000 0:0:0", at(2000, 2, 29, 0, 0, 0)},
		{"29 feb 1900 0:0:0", noRange},
		{"29 feb 2001 0:0:0", noRange},
		{"30 feb 2000 0:0:0", noRange},
		{"31 apr 2000 0:0:0", noRange},
		{"31 dec 1600 23:59:59", noRange},
		{"1 jan 1601 0:0:0", answer{api.FirstMoment, api.OK}},
		{"31 dec 9999 23:59:59", answer{api.LastMoment, api.OK}},
		{"31 dec 9999 23:59:60", noRange},
		{"32 dec 9999 23:59:59", noRange},
		{"1 jan 100 0:0:0", noRange},
	})
}

// somewhere: moments of all times, the edges among them.
func somewhere() []int {
	out := []int{-1, 0, 1, 784111777, 951782400, api.FirstMoment, api.FirstMoment + 1, api.LastMoment, api.LastMoment - 1}
	r := rand.New(rand.NewSource(1))
	for range 50000 {
		out = append(out, api.FirstMoment+r.Intn(api.LastMoment-api.FirstMoment+1))
	}
	for d := range 800 {
		out = append(out, 86400*d-1, 86400*d+3600*(d%24)+61*(d%60))
	}
	return out
}

func TestC3(t *testing.T) {
	for n, want := range map[int]string{
		784111777:       "Sun, 06 Nov 1994 08:49:37 GMT",
		0:               "Thu, 01 Jan 1970 00:00:00 GMT",
		-1:              "Wed, 31 Dec 1969 23:59:59 GMT",
		951782400:       "Tue, 29 Feb 2000 00:00:00 GMT",
		api.FirstMoment: "Mon, 01 Jan 1601 00:00:00 GMT",
		api.LastMoment:  "Fri, 31 Dec 9999 23:59:59 GMT",
	} {
		if got, e := Write(n); got != want || e != api.OK {
			t.Errorf("Write(%d) is %q %d, must be %q", n, got, e, want)
		}
	}
	for _, n := range somewhere() {
		want := time.Unix(int64(n), 0).UTC().Format("Mon, 02 Jan 2006 15:04:05 GMT")
		if got, e := Write(n); got != want || e != api.OK {
			t.Fatalf("Write(%d) is %q %d, must be %q", n, got, e, want)
		}
	}
	for _, n := range []int{api.FirstMoment - 1, api.LastMoment + 1, math.MinInt, math.MaxInt, 1 << 40, -1 << 40} {
		if got, e := Write(n); got != "" || e != api.ErrRange {
			t.Errorf("Write(%d) is %q %d", n, got, e)
		}
	}
}

func TestC4(t *testing.T) {
	for _, n := range somewhere() {
		s, e := Write(n)
		if got := read(s); e != api.OK || got != (answer{n, api.OK}) {
			t.Fatalf("%d is written as %q %d, and read as %v", n, s, e, got)
		}
	}
}

var (
	partingRun = regexp.MustCompile(`[\x09\x20-\x2f\x3b-\x40\x5b-\x60\x7b-\x7e]+`)
	asTime     = regexp.MustCompile(`^([0-9]{1,2}):([0-9]{1,2}):([0-9]{1,2})([^0-9]|$)`)
	asDay      = regexp.MustCompile(`^([0-9]{1,2})([^0-9]|$)`)
	asMonth    = regexp.MustCompile(`^((?i:jan|feb|mar|apr|may|jun|jul|aug|sep|oct|nov|dec))`)
	asYear     = regexp.MustCompile(`^([0-9]{2,4})([^0-9]|$)`)
)

// byRules: what Read must answer, told by patterns. (Of texts without a long s, which (?i) takes for an s.)
func byRules(s string) answer {
	if len(s) > api.MaxText {
		return tooMany
	}
	var got [4][]string
	for _, w := range partingRun.Split(s, -1) {
		for i, p := range []*regexp.Regexp{asTime, asDay, asMonth, asYear} {
			if m := p.FindStringSubmatch(w); m != nil && got[i] == nil {
				got[i] = m
				break
			}
		}
	}
	for _, m := range got {
		if m == nil {
			return noForm
		}
	}
	num := func(s string) int {
		n, _ := strconv.Atoi(s)
		return n
	}
	y := num(got[3][1])
	if y < 70 {
		y += 2000
	} else if y < 100 {
		y += 1900
	}
	mon := strings.Index("janfebmaraprmayjunjulaugsepoctnovdec", strings.ToLower(got[2][1]))/3 + 1
	n, e := clock.Of(api.Time{Y: y, Mon: mon, D: num(got[1][1]), H: num(got[0][1]), Min: num(got[0][2]), S: num(got[0][3])})
	return answer{n, e}
}

// scraps: texts put together from what dates are made of, and from what they are not.
func scraps() []string {
	pieces := []string{"0", "1", "9", "06", "28", "31", "94", "100", "2000", "1601", "12345", ":", "8:49:37", "23:59:59", "1:2", "24:0:0", "jan", "FEB", "Mar", "decem", "ma", "x", "GMT", "\xff", "\u00fc", "\x00", "\x7f", "\n"}
	between := []string{" ", " ", " ", ", ", "-", "", "\t", "/", "@", "~", "`", ";"}
	r := rand.New(rand.NewSource(3))
	var out []string
	for range 60000 {
		s := ""
		for range r.Intn(9) {
			s += pieces[r.Intn(len(pieces))] + between[r.Intn(len(between))]
		}
		out = append(out, s)
	}
	return out
}

// TestC1C2Scraps: what Read answers is what the patterns tell; each answer comes often enough to be tried.
func TestC1C2Scraps(t *testing.T) {
	count := map[api.Errno]int{}
	for _, s := range scraps() {
		got, want := read(s), byRules(s)
		if got != want {
			t.Fatalf("Read(%q) is %v, must be %v", s, got, want)
		}
		count[got.e]++
	}
	if count[api.OK] < 100 || count[api.ErrForm] < 100 || count[api.ErrRange] < 100 {
		t.Errorf("too few of some answer: %v", count)
	}
}

// TestP1P3: no call panics; with an error all else is zero; and what was asked between changes no answer.
func TestP1P3(t *testing.T) {
	r := rand.New(rand.NewSource(4))
	texts := scraps()[:5000]
	for range 5000 {
		s := make([]byte, r.Intn(api.MaxText+20))
		r.Read(s)
		texts = append(texts, string(s))
	}
	var first []answer
	for _, s := range texts {
		a := read(s)
		if a.e != api.OK && a.n != 0 {
			t.Errorf("Read(%q): with an error there is more: %v", s, a)
		}
		first = append(first, a)
		Write(r.Int() - r.Int())
	}
	for i, s := range texts {
		if again := read(s); again != first[i] {
			t.Errorf("Read(%q): first %v, then %v", s, first[i], again)
		}
	}
}
