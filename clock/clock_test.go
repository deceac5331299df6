package clock

import (
	"math"
	"math/rand"
	"testing"
	"time"

	"gingersnap/api"
)

// timeOf: what the library tells of a moment.
func timeOf(n int) (api.Time, int) {
	u := time.Unix(int64(n), 0).UTC()
	return api.Time{Y: u.Year(), Mon: int(u.Month()), D: u.Day(), H: u.Hour(), Min: u.Minute(), S: u.Second()}, int(u.Weekday())
}

// check all that is told of a moment.
func check(t *testing.T, n int) {
	t.Helper()
	want, day := timeOf(n)
	if got, e := Time(n); got != want || e != api.OK {
		t.Fatalf("Time(%d) is %v %d, must be %v", n, got, e, want)
	}
	if got, e := Of(want); got != n || e != api.OK {
		t.Fatalf("Of(%v) is %d %d, must be %d", want, got, e, n)
	}
	if got, e := Weekday(n); got != day || e != api.OK {
		t.Fatalf("Weekday(%d) is %d %d, must be %d", n, got, e, day)
	}
}

func TestB1Examples(t *testing.T) {
	for _, c := range []struct {
		time api.Time
		n    int
		day  int
	}{
		{api.Time{Y: 1970, Mon: 1, D: 1}, 0, 4},
		{api.Time{Y: 1969, Mon: 12, D: 31, H: 23, Min: 59, S: 59}, -1, 3},
		{api.Time{Y: 1994, Mon: 11, D: 6, H: 8, Min: 49, S: 37}, 784111777, 0},
		{api.Time{Y: 2000, Mon: 2, D: 29}, 951782400, 2},
		{api.Time{Y: 1601, Mon: 1, D: 1}, api.FirstMoment, 1},
		{api.Time{Y: 9999, Mon: 12, D: 31, H: 23, Min: 59, S: 59}, api.LastMoment, 5},
	} {
		n, e := Of(c.time)
		if n != c.n || e != api.OK {
			t.Errorf("Of(%v) is %d %d, must be %d", c.time, n, e, c.n)
		}
		u, e := Time(c.n)
		if u != c.time || e != api.OK {
			t.Errorf("Time(%d) is %v %d, must be %v", c.n, u, e, c.time)
		}
		day, e := Weekday(c.n)
		if day != c.day || e != api.OK {
			t.Errorf("Weekday(%d) is %d %d, must be %d", c.n, day, e, c.day)
		}
	}
}

// TestB1Days: the first and the last second of every day that there is.
func TestB1Days(t *testing.T) {
	for n := api.FirstMoment; n <= api.LastMoment; n += daySeconds {
		check(t, n)
		check(t, n+daySeconds-1)
	}
}

// TestB1Seconds: every second of a day ahead of moment 0, and of one behind it.
func TestB1Seconds(t *testing.T) {
	for s := range daySeconds {
		check(t, -951782400+s)
		check(t, 951782400+s)
	}
}

// TestB1NoTime: around every date that might be there, those that are there, and no others.
func TestB1NoTime(t *testing.T) {
	for _, y := range []int{1600, 1601, 1700, 1899, 1900, 1904, 1999, 2000, 2001, 2004, 2100, 2400, 9996, 9999, 10000} {
		for mon := -1; mon <= 14; mon++ {
			for d := -1; d <= 33; d++ {
				u := time.Date(y, time.Month(mon), d, 0, 0, 0, 0, time.UTC)
				is := y >= 1601 && y <= 9999 && u.Year() == y && int(u.Month()) == mon && u.Day() == d
				n, e := Of(api.Time{Y: y, Mon: mon, D: d})
				if is && (n != int(u.Unix()) || e != api.OK) || !is && (n != 0 || e != api.ErrRange) {
					t.Errorf("Of %d-%d-%d is %d %d", y, mon, d, n, e)
				}
			}
		}
	}
	good := [6]int{2000, 2, 29, 12, 30, 45}
	for i := range good {
		for _, bad := range []int{-1, 60, 10000, math.MinInt, math.MaxInt, 1 << 32, 1<<32 + 12, -1 << 32} {
			f := good
			f[i] = bad
			u := api.Time{Y: f[0], Mon: f[1], D: f[2], H: f[3], Min: f[4], S: f[5]}
			if n, e := Of(u); n != 0 || e != api.ErrRange {
				t.Errorf("Of(%v) is %d %d", u, n, e)
			}
		}
	}
	for _, u := range []api.Time{{}, {Y: 2000, Mon: 1, D: 1, H: 24}, {Y: 2000, Mon: 1, D: 1, H: -1}} {
		if n, e := Of(u); n != 0 || e != api.ErrRange {
			t.Errorf("Of(%v) is %d %d", u, n, e)
		}
	}
}

var noMoments = []int{api.FirstMoment - 1, api.LastMoment + 1, -1 << 40, 1 << 40, math.MinInt, math.MinInt + 1, math.MaxInt, math.MaxInt - 1}

func TestB1NoMoment(t *testing.T) {
	for _, n := range noMoments {
		if u, e := Time(n); u != (api.Time{}) || e != api.ErrRange {
			t.Errorf("Time(%d) is %v %d", n, u, e)
		}
		if day, e := Weekday(n); day != 0 || e != api.ErrRange {
			t.Errorf("Weekday(%d) is %d %d", n, day, e)
		}
	}
}

func TestB2(t *testing.T) {
	const first, last = api.FirstMoment, api.LastMoment
	for _, c := range []struct{ n, seconds, want int }{
		{0, 0, 0},
		{1000, 100, 1100},
		{1000, -1001, -1},
		{first, 0, first},
		{first, -1, first},
		{first, 1, first + 1},
		{last, 0, last},
		{last, 1, last},
		{last, -1, last - 1},
		{first, last - first, last},
		{first, last - first - 1, last - 1},
		{first, last - first + 1, last},
		{last, first - last, first},
		{last, first - last + 1, first + 1},
		{last, first - last - 1, first},
		{last, math.MaxInt, last},
		{last, math.MinInt, first},
		{first, math.MaxInt, last},
		{first, math.MinInt, first},
		{0, math.MaxInt, last},
		{-1, math.MinInt, first},
	} {
		if got, e := Add(c.n, c.seconds); got != c.want || e != api.OK {
			t.Errorf("Add(%d, %d) is %d %d, must be %d", c.n, c.seconds, got, e, c.want)
		}
	}
	for _, n := range noMoments {
		for _, s := range []int{0, 1, -1, -n, math.MaxInt, math.MinInt} {
			if got, e := Add(n, s); got != 0 || e != api.ErrRange {
				t.Errorf("Add(%d, %d) is %d %d", n, s, got, e)
			}
		}
	}
}

// TestB3: 400 years on it is the same day of the year and of the week.
func TestB3(t *testing.T) {
	r := rand.New(rand.NewSource(2))
	for range 100000 {
		n := api.FirstMoment + r.Intn(api.LastMoment-api.FirstMoment+1)
		check(t, n)
		u, _ := Time(n)
		if u.Y += 400; u.Y > 9999 {
			continue
		}
		m, e := Of(u)
		if m != n+146097*86400 || e != api.OK {
			t.Fatalf("400 years behind %d it is %d %d", n, m, e)
		}
		a, _ := Weekday(n)
		if b, _ := Weekday(m); a != b {
			t.Fatalf("the weekday of %d is %d, that of %d is %d", n, a, m, b)
		}
	}
}

// answers of all calls of this package for some numbers.
type answers struct {
	of, day, sum   int
	time           api.Time
	e1, e2, e3, e4 api.Errno
}

func ask(f [6]int) answers {
	var a answers
	a.of, a.e1 = Of(api.Time{Y: f[0], Mon: f[1], D: f[2], H: f[3], Min: f[4], S: f[5]})
	a.time, a.e2 = Time(f[0])
	a.day, a.e3 = Weekday(f[1])
	a.sum, a.e4 = Add(f[2], f[3])
	return a
}

// TestP1P3: no call panics, whatever numbers it is handed; with an error all else is 0; and what was asked between changes no answer.
func TestP1P3(t *testing.T) {
	some := []int{math.MinInt, -1 << 32, api.FirstMoment - 1, api.FirstMoment, -1, 0, 1, 2, 12, 29, 60, 2000, 9999, api.LastMoment, api.LastMoment + 1, math.MaxInt}
	r := rand.New(rand.NewSource(3))
	var asked [][6]int
	var first []answers
	for range 20000 {
		var f [6]int
		for i := range f {
			f[i] = some[r.Intn(len(some))]
		}
		a := ask(f)
		if a.e1 != api.OK && a.of != 0 || a.e2 != api.OK && a.time != (api.Time{}) || a.e3 != api.OK && a.day != 0 || a.e4 != api.OK && a.sum != 0 {
			t.Fatalf("%v: with an error there is more: %+v", f, a)
		}
		asked, first = append(asked, f), append(first, a)
	}
	for i, f := range asked {
		if again := ask(f); again != first[i] {
			t.Errorf("%v: first %+v, then %+v", f, first[i], again)
		}
	}
}
