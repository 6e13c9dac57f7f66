// Package span is layer 1: intervals of integers and sets of them. See shared/doc/01-span.md.
package span

import (
	"cmp"
	"slices"

	"gangsaw/api"
)

// Limits of intervals.
const (
	MaxNumber = 1000000000000
	MaxList   = 10000
)

// empty stands for the absence of common numbers; no valid interval equals it.
var empty = api.Interval{Lo: 1, Hi: 0}

// Check returns OK for a valid interval, or the first error.
func Check(a api.Interval) api.Errno { return checkAll(a) }

// Contains reports whether a number lies in an interval.
func Contains(a api.Interval, n int) bool { return a.Lo <= n && n <= a.Hi }

// Within reports whether all numbers of a lie in b.
func Within(a, b api.Interval) bool {
	return a.Lo > a.Hi || b.Lo <= a.Lo && a.Hi <= b.Hi
}

// Length returns how many numbers an interval has.
func Length(a api.Interval) int {
	if Check(a) != api.OK {
		return 0
	}
	return a.Hi - a.Lo + 1
}

// Add returns the interval of all sums of a number of a and one of b.
func Add(a, b api.Interval) (api.Interval, api.Errno) {
	if e := checkAll(a, b); e != api.OK {
		return api.Interval{}, e
	}
	return inRange(api.Interval{Lo: a.Lo + b.Lo, Hi: a.Hi + b.Hi})
}

// Sub returns the interval of all differences of a number of a and one of b.
func Sub(a, b api.Interval) (api.Interval, api.Errno) {
	if e := checkAll(a, b); e != api.OK {
		return api.Interval{}, e
	}
	return inRange(api.Interval{Lo: a.Lo - b.Hi, Hi: a.Hi - b.Lo})
}

// Sum returns the interval of all sums of one number of each interval.
func Sum(list []api.Interval) (api.Interval, api.Errno) {
	if e := checkLists(list); e != api.OK {
		return api.Interval{}, e
	}
	// MaxList times MaxNumber is far below the greatest int: partial sums cannot overflow.
	var sum api.Interval
	for _, a := range list {
		sum.Lo += a.Lo
		sum.Hi += a.Hi
	}
	return inRange(sum)
}

// Intersect returns the common numbers.
func Intersect(a, b api.Interval) (api.Interval, api.Errno) {
	if e := checkAll(a, b); e != api.OK {
		return api.Interval{}, e
	}
	c := overlap(a, b)
	if c == empty {
		return api.Interval{}, api.ErrNone
	}
	return c, api.OK
}

// Hull returns the least interval that contains both.
func Hull(a, b api.Interval) (api.Interval, api.Errno) {
	if e := checkAll(a, b); e != api.OK {
		return api.Interval{}, e
	}
	return api.Interval{Lo: min(a.Lo, b.Lo), Hi: max(a.Hi, b.Hi)}, api.OK
}

// Normalize returns the set of all numbers of intervals: increasing, not touching.
func Normalize(list []api.Interval) ([]api.Interval, api.Errno) {
	if e := checkLists(list); e != api.OK {
		return nil, e
	}
	return normal(list), api.OK
}

// Union returns the set of the numbers of one list or the other.
func Union(a, b []api.Interval) ([]api.Interval, api.Errno) {
	if e := checkLists(a, b); e != api.OK {
		return nil, e
	}
	return normal(a, b), api.OK
}

// Minus returns the set of the numbers of a that are not in b.
func Minus(a, b []api.Interval) ([]api.Interval, api.Errno) {
	if e := checkLists(a, b); e != api.OK {
		return nil, e
	}
	return common(normal(a), gaps(normal(b))), api.OK
}

// Common returns the set of the numbers of both lists.
func Common(a, b []api.Interval) ([]api.Interval, api.Errno) {
	if e := checkLists(a, b); e != api.OK {
		return nil, e
	}
	return common(normal(a), normal(b)), api.OK
}

// Count returns how many numbers the intervals of a list have together, each counted once.
func Count(list []api.Interval) (int, api.Errno) {
	if e := checkLists(list); e != api.OK {
		return 0, e
	}
	n := 0
	for _, a := range normal(list) {
		n += Length(a)
	}
	return n, api.OK
}

// checkLists returns the first error of lists and of their intervals.
func checkLists(lists ...[]api.Interval) api.Errno {
	for _, list := range lists {
		if len(list) > MaxList {
			return api.ErrTooMany
		}
	}
	return checkAll(slices.Concat(lists...)...)
}

// checkAll examines the ends of all intervals first, since an end out of range outranks a wrong order elsewhere.
func checkAll(list ...api.Interval) api.Errno {
	for _, a := range list {
		if _, e := inRange(a); e != api.OK {
			return e
		}
	}
	for _, a := range list {
		if a.Lo > a.Hi {
			return api.ErrInvalid
		}
	}
	return api.OK
}

// inRange returns an interval if its ends are in range.
func inRange(a api.Interval) (api.Interval, api.Errno) {
	if min(a.Lo, a.Hi) < -MaxNumber || max(a.Lo, a.Hi) > MaxNumber {
		return api.Interval{}, api.ErrRange
	}
	return a, api.OK
}

// overlap returns the common numbers of two valid intervals, or empty.
func overlap(a, b api.Interval) api.Interval {
	c := api.Interval{Lo: max(a.Lo, b.Lo), Hi: min(a.Hi, b.Hi)}
	if c.Lo > c.Hi {
		return empty
	}
	return c
}

// normal returns the normal form of the numbers of valid lists.
func normal(lists ...[]api.Interval) []api.Interval {
	sorted := slices.Concat(lists...)
	slices.SortFunc(sorted, func(a, b api.Interval) int { return cmp.Compare(a.Lo, b.Lo) })
	var out []api.Interval
	for _, a := range sorted {
		if last := len(out) - 1; last >= 0 && a.Lo <= out[last].Hi+1 {
			out[last].Hi = max(out[last].Hi, a.Hi)
		} else {
			out = append(out, a)
		}
	}
	return out
}

// common returns the normal form of the common numbers of two sets in normal form. Its intervals never touch, because one of the sets lacks a number between them.
func common(a, b []api.Interval) []api.Interval {
	var out []api.Interval
	for len(a) > 0 && len(b) > 0 {
		if c := overlap(a[0], b[0]); c != empty {
			out = append(out, c)
		}
		if a[0].Hi < b[0].Hi {
			a = a[1:]
		} else {
			b = b[1:]
		}
	}
	return out
}

// gaps returns the numbers from -MaxNumber to MaxNumber that a set in normal form leaves out.
func gaps(list []api.Interval) []api.Interval {
	var out []api.Interval
	next := -MaxNumber
	for _, a := range list {
		if next < a.Lo {
			out = append(out, api.Interval{Lo: next, Hi: a.Lo - 1})
		}
		next = a.Hi + 1
	}
	if next <= MaxNumber {
		out = append(out, api.Interval{Lo: next, Hi: MaxNumber})
	}
	return out
}
