package span_test

import (
	"reflect"
	"slices"
	"testing"

	"gangsaw/api"
	"gangsaw/span"
)

// listCall is a function of lists, called with two of them or with the first one.
type listCall struct {
	name  string
	lists int
	call  func(a, b []api.Interval) (any, api.Errno)
}

func listCalls() []listCall {
	return []listCall{
		{"Sum", 1, func(a, _ []api.Interval) (any, api.Errno) { return span.Sum(a) }},
		{"Normalize", 1, func(a, _ []api.Interval) (any, api.Errno) { return span.Normalize(a) }},
		{"Count", 1, func(a, _ []api.Interval) (any, api.Errno) { return span.Count(a) }},
		{"Union", 2, func(a, b []api.Interval) (any, api.Errno) { return span.Union(a, b) }},
		{"Minus", 2, func(a, b []api.Interval) (any, api.Errno) { return span.Minus(a, b) }},
		{"Common", 2, func(a, b []api.Interval) (any, api.Errno) { return span.Common(a, b) }},
	}
}

func isZero(result any) bool {
	v := reflect.ValueOf(result)
	return v.IsZero() || v.Kind() == reflect.Slice && v.Len() == 0
}

// P1: the errors of the functions of two intervals, in their order, with zero results.
func TestErrorsOfIntervals(t *testing.T) {
	good, far, reversed := in(1, 2), in(0, most+1), in(2, 1)
	below := in(-most-1, 0)
	farReversed := in(most+1, 0)
	for name, f := range map[string]func(a, b api.Interval) (api.Interval, api.Errno){
		"Add": span.Add, "Sub": span.Sub, "Intersect": span.Intersect, "Hull": span.Hull,
	} {
		for _, c := range []struct {
			a, b api.Interval
			want api.Errno
		}{
			{far, good, api.ErrRange},
			{good, far, api.ErrRange},
			{below, good, api.ErrRange},
			{good, below, api.ErrRange},
			{reversed, good, api.ErrInvalid},
			{good, reversed, api.ErrInvalid},
			{reversed, reversed, api.ErrInvalid},
			{farReversed, good, api.ErrRange},
			{good, farReversed, api.ErrRange},
			{reversed, far, api.ErrRange},
			{far, reversed, api.ErrRange},
			// These would also be out of range, or have no common number.
			{in(most, most-1), in(most, most), api.ErrInvalid},
			{in(-most, -most-1), in(most, most), api.ErrRange},
			{in(9, 8), in(1, 2), api.ErrInvalid},
			{in(-most, -most), in(9, 8), api.ErrInvalid},
		} {
			if got, e := f(c.a, c.b); e != c.want || got != (api.Interval{}) {
				t.Errorf("%s of %v and %v: %v, %d, want %d", name, c.a, c.b, got, e, c.want)
			}
		}
	}
}

// P1: the errors of the functions of lists, in their order, with zero results.
func TestErrorsOfLists(t *testing.T) {
	good, far, reversed := in(1, 2), in(0, most+1), in(2, 1)
	long := repeat(good, span.MaxList+1)
	for _, f := range listCalls() {
		for _, c := range []struct {
			list []api.Interval
			want api.Errno
		}{
			{long, api.ErrTooMany},
			{repeat(far, span.MaxList+1), api.ErrTooMany},
			{repeat(reversed, span.MaxList+1), api.ErrTooMany},
			{[]api.Interval{good, far}, api.ErrRange},
			{[]api.Interval{in(-most-1, 0)}, api.ErrRange},
			{[]api.Interval{in(most+1, 0)}, api.ErrRange},
			{[]api.Interval{good, reversed, good}, api.ErrInvalid},
			{[]api.Interval{reversed, good, far}, api.ErrRange},
			{slices.Concat(repeat(good, span.MaxList-1), []api.Interval{reversed}), api.ErrInvalid},
			{slices.Concat(repeat(good, span.MaxList-1), []api.Interval{far}), api.ErrRange},
		} {
			for _, side := range [][2][]api.Interval{{c.list, {good}}, {{good}, c.list}}[:f.lists] {
				if got, e := f.call(side[0], side[1]); e != c.want || !isZero(got) {
					t.Errorf("%s with a list of %d: %v, %d, want %d", f.name, len(c.list), got, e, c.want)
				}
			}
		}
		if _, e := f.call(repeat(good, span.MaxList), repeat(good, span.MaxList)); e != api.OK {
			t.Errorf("%s of lists of MaxList intervals: %d", f.name, e)
		}
	}
}

// P1: an error of either list comes before a later one of the other list.
func TestErrorsOfTwoLists(t *testing.T) {
	far, reversed := []api.Interval{in(0, most+1)}, []api.Interval{in(2, 1)}
	long := repeat(in(2, 1), span.MaxList+1)
	for _, f := range listCalls() {
		if f.lists < 2 {
			continue
		}
		for _, c := range []struct {
			a, b []api.Interval
			want api.Errno
		}{
			{far, long, api.ErrTooMany},
			{long, far, api.ErrTooMany},
			{reversed, far, api.ErrRange},
			{far, reversed, api.ErrRange},
			{reversed, nil, api.ErrInvalid},
			{nil, reversed, api.ErrInvalid},
		} {
			if got, e := f.call(c.a, c.b); e != c.want || !isZero(got) {
				t.Errorf("%s: %v, %d, want %d", f.name, got, e, c.want)
			}
		}
	}
}

// P1: an invalid interval comes before a sum out of range.
func TestSumErrorOrder(t *testing.T) {
	if got, e := span.Sum([]api.Interval{in(most, most), in(most, most), in(2, 1)}); e != api.ErrInvalid || got != (api.Interval{}) {
		t.Errorf("Sum: %v, %d", got, e)
	}
}

// The Rules: arguments are not modified, and results share no memory with them.
func TestListsAreLeftAlone(t *testing.T) {
	first := []api.Interval{in(5, 7), in(1, 2), in(3, 3)}
	second := []api.Interval{in(30, 40), in(2, 6)}
	for _, f := range listCalls() {
		a, b := slices.Clone(first), slices.Clone(second)
		got, _ := f.call(a, b)
		if !slices.Equal(a, first) || !slices.Equal(b, second) {
			t.Errorf("%s changed its arguments to %v and %v", f.name, a, b)
		}
		list, ok := got.([]api.Interval)
		if !ok {
			continue
		}
		before := slices.Clone(list)
		clear(a)
		clear(b)
		if !slices.Equal(list, before) {
			t.Errorf("%s shares memory with its arguments", f.name)
		}
	}
	one := []api.Interval{in(1, 2)}
	for _, f := range listCalls() {
		got, _ := f.call(one, nil)
		if list, ok := got.([]api.Interval); ok && len(list) > 0 && &list[0] == &one[0] {
			t.Errorf("%s returns its argument", f.name)
		}
	}
}
