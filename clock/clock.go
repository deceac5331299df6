// Package clock: moments: see doc/02-clock.md.
package clock

import "gingersnap/api"

const (
	minuteSeconds = 60
	hourSeconds   = 60 * minuteSeconds
	daySeconds    = 24 * hourSeconds
	firstYear     = 1601
	firstWeekday  = 1 // the first day of 1601 was a Monday
)

// bounds: the least and the greatest of each thing that a time has, from its year to its second; a month may have fewer days.
var bounds = [6][2]int{{firstYear, 9999}, {1, 12}, {1, 31}, {0, 23}, {0, 59}, {0, 59}}

// monthDays of a year that is no leap year.
var monthDays = [12]int{31, 28, 31, 30, 31, 30, 31, 31, 30, 31, 30, 31}

// span of years: its days, and how many of them there are at most in one of the next greater span.
type span struct{ years, days, most int }

// spans from 1601 on. The most are told, since the last one in a greater span may have a day more, which must not count as one more span.
var spans = [4]span{{400, 146097, 20}, {100, 36524, 3}, {4, 1461, 24}, {1, 365, 3}}

// Of: the moment of a time.
func Of(t api.Time) (int, api.Errno) {
	has := [6]int{t.Y, t.Mon, t.D, t.H, t.Min, t.S}
	for i, n := range has {
		if n < bounds[i][0] || n > bounds[i][1] {
			return 0, api.ErrRange
		}
	}
	if t.D > daysOfMonth(t.Y, t.Mon) {
		return 0, api.ErrRange
	}
	day := daysAhead(t.Y, t.Mon) + t.D - 1
	return api.FirstMoment + day*daySeconds + t.H*hourSeconds + t.Min*minuteSeconds + t.S, api.OK
}

// Time: the time of a moment.
func Time(n int) (api.Time, api.Errno) {
	if !moment(n) {
		return api.Time{}, api.ErrRange
	}
	since := n - api.FirstMoment
	year, day := yearOf(since / daySeconds)
	month, day := monthOf(year, day)
	s := since % daySeconds
	return api.Time{Y: year, Mon: month, D: day + 1, H: s / hourSeconds, Min: s % hourSeconds / minuteSeconds, S: s % minuteSeconds}, api.OK
}

// Weekday of a moment, from 0, a Sunday, on.
func Weekday(n int) (int, api.Errno) {
	if !moment(n) {
		return 0, api.ErrRange
	}
	return ((n-api.FirstMoment)/daySeconds + firstWeekday) % 7, api.OK
}

// Add: so many seconds behind a moment, within the bounds of moments.
func Add(n, seconds int) (int, api.Errno) {
	switch {
	case !moment(n):
		return 0, api.ErrRange
	case seconds > api.LastMoment-n: // the sum itself might wrap round
		return api.LastMoment, api.OK
	case seconds < api.FirstMoment-n:
		return api.FirstMoment, api.OK
	}
	return n + seconds, api.OK
}

func moment(n int) bool { return api.FirstMoment <= n && n <= api.LastMoment }

func leap(year int) bool { return year%4 == 0 && (year%100 != 0 || year%400 == 0) }

func daysOfMonth(year, month int) int {
	if month == 2 && leap(year) {
		return monthDays[1] + 1
	}
	return monthDays[month-1]
}

// daysAhead: how many days from the first one of 1601 on are ahead of a month.
func daysAhead(year, month int) int {
	past := year - firstYear
	days := past*365 + past/4 - past/100 + past/400
	for m := 1; m < month; m++ {
		days += daysOfMonth(year, m)
	}
	return days
}

// yearOf a day, counted from the first one of 1601 on, and which day of that year it is, from 0 on.
func yearOf(day int) (int, int) {
	year := firstYear
	for i := range len(spans) {
		k := min(day/spans[i].days, spans[i].most)
		year += k * spans[i].years
		day -= k * spans[i].days
	}
	return year, day
}

// monthOf a day of a year, and which day of that month it is, both days from 0 on.
func monthOf(year, day int) (int, int) {
	month := 1
	for day >= daysOfMonth(year, month) {
		day -= daysOfMonth(year, month)
		month++
	}
	return month, day
}
