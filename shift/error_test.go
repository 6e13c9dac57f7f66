package shift_test

import (
	"math"
	"slices"
	"testing"

	"gangsaw/api"
	"gangsaw/shift"
)

// calls returns the answers of all functions to a calendar, with valid arguments beside it.
func calls(c shift.Calendar) map[string]answer {
	open, e := shift.Open(c, 5)
	out := map[string]answer{"Open": {code: e}}
	if open {
		out["Open"] = answer{1, e}
	}
	for name, other := range map[string][2]shift.Calendar{"Common first": {c, always()}, "Common second": {always(), c}} {
		common, e := shift.Common(other[0], other[1])
		out[name] = answer{len(common.Shifts) + len(common.Free), e}
	}
	out["Check"] = no(shift.Check(c))
	out["Work"] = ask(shift.Work(c, 5, 10))
	out["Next"] = ask(shift.Next(c, 5))
	out["After"] = ask(shift.After(c, 5, 1))
	out["Before"] = ask(shift.Before(c, 10, 1))
	out["Whole"] = ask(shift.Whole(c, 5, 1))
	out["Week"] = ask(shift.Week(c))
	return out
}

// minutes returns so many shifts of a minute each, on one weekday.
func minutes(weekday, count int) []api.Shift {
	var out []api.Shift
	for i := range count {
		out = append(out, hours(weekday, 2*i, 2*i+1)...)
	}
	return out
}

// days returns so many days, from a first one.
func days(first, count int) []int {
	var out []int
	for i := range count {
		out = append(out, first+i)
	}
	return out
}

// wrongCalendars returns calendars with their first errors.
func wrongCalendars() map[string]struct {
	c    shift.Calendar
	want api.Errno
} {
	full, far := minutes(2, 65), days(9936, 65)
	unsorted := hours(2, 0, 10, 1, 0, 10)
	type wrong = struct {
		c    shift.Calendar
		want api.Errno
	}
	return map[string]wrong{
		"too many shifts":                 {free(full), api.ErrTooMany},
		"too many free days":              {free(nil, days(0, 65)...), api.ErrTooMany},
		"too many wrong shifts":           {free(slices.Repeat(hours(0, 0, 0), 65)), api.ErrTooMany},
		"too many free days far away":     {free(hours(8, 5, 3), far...), api.ErrTooMany},
		"the weekday 0":                   {free(hours(0, 0, 10)), api.ErrRange},
		"the weekday 8":                   {free(hours(8, 0, 10)), api.ErrRange},
		"extreme weekdays":                {free(hours(math.MinInt, 0, 10, math.MaxInt, 0, 10)), api.ErrRange},
		"a negative From":                 {free(hours(1, -1, 10)), api.ErrRange},
		"a great To":                      {free(hours(1, 0, 1441)), api.ErrRange},
		"a great From":                    {free(hours(1, 1440, 1441)), api.ErrRange},
		"an empty shift":                  {free(hours(1, 5, 5)), api.ErrRange},
		"an empty shift at the end":       {free(hours(1, 1440, 1440)), api.ErrRange},
		"a negative shift":                {free(hours(1, 6, 5)), api.ErrRange},
		"extreme minutes":                 {free(hours(1, math.MinInt, math.MaxInt)), api.ErrRange},
		"the last shift wrong":            {free(append(minutes(2, 63), hours(7, 9, 9)...)), api.ErrRange},
		"a negative free day":             {free(nil, -1), api.ErrRange},
		"a late free day":                 {free(nil, 10000), api.ErrRange},
		"extreme free days":               {free(nil, math.MinInt, math.MaxInt), api.ErrRange},
		"the last free day wrong":         {free(nil, append(days(0, 63), 10000)...), api.ErrRange},
		"unsorted, and a late free day":   {free(unsorted, 10000), api.ErrRange},
		"unsorted free days, a wrong one": {free(nil, 5, 4, -1), api.ErrRange},
		"unsorted, and a wrong shift":     {free(append(unsorted, hours(3, 5, 5)...)), api.ErrRange},
		"unsorted weekdays":               {free(unsorted), api.ErrDuplicate},
		"unsorted shifts of a day":        {free(hours(1, 20, 30, 1, 0, 10)), api.ErrDuplicate},
		"overlapping shifts":              {free(hours(1, 0, 10, 1, 9, 20)), api.ErrDuplicate},
		"a shift twice":                   {free(hours(1, 0, 10, 1, 0, 10)), api.ErrDuplicate},
		"a shift within another one":      {free(hours(1, 0, 100, 1, 10, 20)), api.ErrDuplicate},
		"the last shifts overlap":         {free(append(minutes(2, 62), hours(7, 1, 9, 7, 8, 10)...)), api.ErrDuplicate},
		"a free day twice":                {free(nil, 5, 5), api.ErrDuplicate},
		"unsorted free days":              {free(nil, 5, 4), api.ErrDuplicate},
		"the last free day twice":         {free(nil, append(days(9937, 63), 9999)...), api.ErrDuplicate},
	}
}

// P1 and P12.1: all functions refuse a calendar that is not valid, with zero results.
func TestErrorsOfCalendars(t *testing.T) {
	for name, c := range wrongCalendars() {
		for call, got := range calls(c.c) {
			if got != no(c.want) {
				t.Errorf("%s with %s: %v, want %d", call, name, got, c.want)
			}
		}
	}
}

// P1 and P12.1: calendars just within the limits are valid.
func TestNoErrorsOfCalendars(t *testing.T) {
	for name, c := range map[string]shift.Calendar{
		"nothing":                      {},
		"empty lists":                  {Shifts: []api.Shift{}, Free: []int{}},
		"many shifts and days":         free(minutes(1, 64), days(7, 64)...),
		"the last free days":           free(nil, days(9936, 64)...),
		"the first and the last shift": free(hours(1, 0, 1, 7, 1439, 1440)),
		"touching shifts":              free(hours(1, 0, 10, 1, 10, 20)),
		"equal times of other days":    free(hours(1, 5, 10, 2, 0, 10, 7, 0, 7)),
		"the example":                  example(),
		"all minutes":                  always(),
	} {
		for call, got := range calls(c) {
			if got.code != api.OK && got.code != api.ErrNone {
				t.Errorf("%s with %s: %d", call, name, got.code)
			}
		}
	}
}

// P1: minutes and numbers of minutes outside their range are refused before it is asked whether there is such a minute, and behind the errors of the calendar.
func TestErrorsOfMinutes(t *testing.T) {
	for _, c := range []struct {
		c    shift.Calendar
		want api.Errno
	}{
		{example(), api.ErrRange},
		{shift.Calendar{}, api.ErrRange},
		{free(hours(1, 0, 10, 1, 0, 10)), api.ErrDuplicate},
		{free(minutes(2, 65)), api.ErrTooMany},
	} {
		for _, m := range []int{-1, end + 1, math.MinInt, math.MaxInt} {
			open, e := shift.Open(c.c, m)
			if open || e != c.want {
				t.Errorf("Open at %d: %v, %d, want %d", m, open, e, c.want)
			}
			for name, got := range map[string]answer{
				"Work from":    ask(shift.Work(c.c, m, 10)),
				"Work to":      ask(shift.Work(c.c, 10, m)),
				"Next":         ask(shift.Next(c.c, m)),
				"After from":   ask(shift.After(c.c, m, 1)),
				"After work":   ask(shift.After(c.c, 10, m)),
				"After both":   ask(shift.After(c.c, m, m)),
				"After none":   ask(shift.After(c.c, m, 0)),
				"Before to":    ask(shift.Before(c.c, m, 1)),
				"Before work":  ask(shift.Before(c.c, 10, m)),
				"Before none":  ask(shift.Before(c.c, m, 0)),
				"Whole from":   ask(shift.Whole(c.c, m, 1)),
				"Whole work":   ask(shift.Whole(c.c, 10, m)),
				"Whole at end": ask(shift.Whole(c.c, end, m)),
			} {
				if got != no(c.want) {
					t.Errorf("%s %d: %v, want %d", name, m, got, c.want)
				}
			}
		}
		if got := ask(shift.Work(c.c, 11, 10)); got != no(c.want) {
			t.Errorf("Work from 11 to 10: %v, want %d", got, c.want)
		}
		if got := ask(shift.Work(c.c, end, 0)); got != no(c.want) {
			t.Errorf("Work from the end: %v, want %d", got, c.want)
		}
	}
}

// P1: of two calendars the first one is checked before the second one.
func TestErrorsOfTwoCalendars(t *testing.T) {
	tooMany, beyond, twice := free(minutes(2, 65)), free(nil, -1), free(nil, 1, 1)
	for _, c := range []struct {
		a, b shift.Calendar
		want api.Errno
	}{
		{twice, tooMany, api.ErrDuplicate},
		{twice, beyond, api.ErrDuplicate},
		{beyond, tooMany, api.ErrRange},
		{beyond, twice, api.ErrRange},
		{tooMany, beyond, api.ErrTooMany},
		{example(), twice, api.ErrDuplicate},
		{free(nil, days(0, 64)...), free(twice.Shifts, 9999, 9999), api.ErrDuplicate},
	} {
		if got, e := shift.Common(c.a, c.b); e != c.want || !same(got, shift.Calendar{}) {
			t.Errorf("Common of %v and %v: %v, %d, want %d", c.a, c.b, got, e, c.want)
		}
	}
}

// P1 and P12.5: the common calendar may have 64 shifts and free days, and not one more.
func TestErrorsOfCommon(t *testing.T) {
	// Each shift of one calendar ends within one of the other one, so that all but the last one make two common shifts.
	var a, b []api.Shift
	for i := range 33 {
		a = append(a, hours(1, 20*i, 20*i+15)...)
		b = append(b, hours(1, 20*i+10, 20*i+25)...)
	}
	touching := hours(1, 0, 10, 1, 10, 20)
	for name, c := range map[string]struct {
		a, b         shift.Calendar
		want         api.Errno
		shifts, days int
	}{
		"65 common shifts":              {free(a), free(b), api.ErrTooMany, 0, 0},
		"64 common shifts":              {free(a[1:]), free(b), api.OK, 64, 0},
		"63 common shifts":              {free(a[:32]), free(b[:32]), api.OK, 63, 0},
		"64 joined shifts":              {free(append(touching, minutes(2, 62)...)), always(), api.OK, 63, 0},
		"64 and 1 free days":            {free(nil, days(0, 64)...), free(nil, 64), api.ErrTooMany, 0, 0},
		"64 free days in both":          {free(nil, days(0, 64)...), free(nil, days(0, 64)...), api.OK, 0, 64},
		"32 and 32 free days":           {free(nil, days(0, 32)...), free(nil, days(32, 32)...), api.OK, 0, 64},
		"33 and 32 free days":           {free(nil, days(0, 33)...), free(nil, days(33, 32)...), api.ErrTooMany, 0, 0},
		"64 free days far apart":        {free(nil, days(0, 64)...), free(nil, days(9936, 64)...), api.ErrTooMany, 0, 0},
		"64 common shifts with 64 days": {free(a[1:], days(0, 64)...), free(b, 5), api.OK, 64, 64},
		"64 common shifts with 65 days": {free(a[1:], days(0, 64)...), free(b, 65), api.ErrTooMany, 0, 0},
	} {
		for range 2 {
			got, e := shift.Common(c.a, c.b)
			if e != c.want || len(got.Shifts) != c.shifts || len(got.Free) != c.days {
				t.Errorf("%s: %d shifts, %d free days, %d", name, len(got.Shifts), len(got.Free), e)
			}
			c.a, c.b = c.b, c.a
		}
	}
}
