package shift

import (
	"iter"
	"slices"

	"gangsaw/api"
)

const (
	weekdays = 7
	dayLong  = 1440
	allDays  = MaxMinute / dayLong
)

// Calendar has the shifts of each week and days on which nobody works. Day 0 is a Monday.
type Calendar struct {
	Shifts []api.Shift // sorted by weekday, then by From
	Free   []int       // increasing
}

// Check returns OK for a valid calendar, or the first error.
func Check(c Calendar) api.Errno {
	switch {
	case isTooLong(c):
		return api.ErrTooMany
	case slices.ContainsFunc(c.Shifts, isBeyond), slices.ContainsFunc(c.Free, isNoDay):
		return api.ErrRange
	case !isSorted(c):
		return api.ErrDuplicate
	}
	return api.OK
}

// checkMinutes returns the first error of a calendar and of minutes or numbers of minutes.
func checkMinutes(c Calendar, minutes ...int) api.Errno {
	if e := Check(c); e != api.OK {
		return e
	}
	for _, m := range minutes {
		if m < 0 || m > MaxMinute {
			return api.ErrRange
		}
	}
	return api.OK
}

func isTooLong(c Calendar) bool {
	return len(c.Shifts) > MaxShifts || len(c.Free) > MaxFree
}

// isBeyond reports whether a shift is not one of a weekday.
func isBeyond(s api.Shift) bool {
	return s.Weekday < 1 || s.Weekday > weekdays || s.From < 0 || s.To > dayLong || s.From >= s.To
}

func isNoDay(day int) bool {
	return day < 0 || day >= allDays
}

// isSorted reports whether shifts within their ranges and free days stand in order and do not overlap.
func isSorted(c Calendar) bool {
	for i := 1; i < len(c.Shifts); i++ {
		last, s := c.Shifts[i-1], c.Shifts[i]
		if s.Weekday < last.Weekday || s.Weekday == last.Weekday && s.From < last.To {
			return false
		}
	}
	for i := 1; i < len(c.Free); i++ {
		if c.Free[i] <= c.Free[i-1] {
			return false
		}
	}
	return true
}

// shiftsOf produces the shifts of a day in order, each one with the minutes at which it begins and ends; none if the day is free.
func shiftsOf(c Calendar, day int) iter.Seq2[int, int] {
	return func(yield func(begin, end int) bool) {
		if _, free := slices.BinarySearch(c.Free, day); free {
			return
		}
		midnight := day * dayLong
		for _, s := range c.Shifts {
			if s.Weekday == day%weekdays+1 && !yield(midnight+s.From, midnight+s.To) {
				return
			}
		}
	}
}

// workSince produces what lies behind a minute of the shifts of all days, in order.
func workSince(c Calendar, minute int) iter.Seq2[int, int] {
	return func(yield func(begin, end int) bool) {
		for day := minute / dayLong; day < allDays; day++ {
			for begin, end := range shiftsOf(c, day) {
				if end > minute && !yield(max(begin, minute), end) {
					return
				}
			}
		}
	}
}

// commonShifts returns the times that lie in shifts of both of two lists, those joined that touch each other.
func commonShifts(a, b []api.Shift) []api.Shift {
	var out []api.Shift
	add := func(s api.Shift) {
		last := len(out) - 1
		if last >= 0 && out[last].Weekday == s.Weekday && out[last].To == s.From {
			out[last].To = s.To
			return
		}
		out = append(out, s)
	}
	for _, s := range a {
		for _, t := range b {
			from, to := max(s.From, t.From), min(s.To, t.To)
			if s.Weekday == t.Weekday && from < to {
				add(api.Shift{Weekday: s.Weekday, From: from, To: to})
			}
		}
	}
	return out
}

// allFree returns the days that are free in one of two calendars or in both.
func allFree(a, b Calendar) []int {
	days := slices.Concat(a.Free, b.Free)
	slices.Sort(days)
	return slices.Compact(days)
}
