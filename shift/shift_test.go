package shift_test

import (
	"slices"
	"testing"

	"gangsaw/api"
	"gangsaw/shift"
)

const (
	day  = 1440
	week = 7 * day
	end  = shift.MaxMinute
)

// hours returns the shifts of numbers: a weekday, From and To for each.
func hours(numbers ...int) []api.Shift {
	var out []api.Shift
	for s := range slices.Chunk(numbers, 3) {
		out = append(out, api.Shift{Weekday: s[0], From: s[1], To: s[2]})
	}
	return out
}

// free returns a calendar of shifts with free days.
func free(shifts []api.Shift, days ...int) shift.Calendar {
	return shift.Calendar{Shifts: shifts, Free: days}
}

// example returns the calendar of the chapter's examples.
func example() shift.Calendar {
	return free(hours(1, 480, 720, 1, 780, 960, 2, 480, 600), 7)
}

// always returns a calendar of work at all minutes.
func always() shift.Calendar {
	return free(hours(1, 0, 1440, 2, 0, 1440, 3, 0, 1440, 4, 0, 1440, 5, 0, 1440, 6, 0, 1440, 7, 0, 1440))
}

// same compares two calendars; nil and empty lists are the same.
func same(a, b shift.Calendar) bool {
	return slices.Equal(a.Shifts, b.Shifts) && slices.Equal(a.Free, b.Free)
}

// answer is a minute or a number of minutes, and an error.
type answer struct {
	n    int
	code api.Errno
}

func ask(n int, e api.Errno) answer { return answer{n, e} }

func yes(n int) answer { return answer{n: n} }

func no(e api.Errno) answer { return answer{code: e} }

// checkAll compares answers with those that are wanted.
func checkAll(t *testing.T, cases map[string][2]answer) {
	t.Helper()
	for name, c := range cases {
		if c[0] != c[1] {
			t.Errorf("%s: %d, error %d, want %d, error %d", name, c[0].n, c[0].code, c[1].n, c[1].code)
		}
	}
}

// The limits of the chapter.
func TestLimits(t *testing.T) {
	if shift.MaxShifts != 64 || shift.MaxFree != 64 || shift.MaxMinute != 14400000 {
		t.Error("other limits")
	}
}

// P12.2 and P12.5: the first example of the chapter.
func TestFirstExample(t *testing.T) {
	c := example()
	checkAll(t, map[string][2]answer{
		"Work":     {ask(shift.Work(c, 0, 10080)), yes(540)},
		"Week":     {ask(shift.Week(c)), yes(540)},
		"Next 720": {ask(shift.Next(c, 720)), yes(780)},
		"Next 960": {ask(shift.Next(c, 960)), yes(1920)},
	})
}

// P12.3: the second example of the chapter.
func TestSecondExample(t *testing.T) {
	c := example()
	checkAll(t, map[string][2]answer{
		"After":  {ask(shift.After(c, 700, 30)), yes(790)},
		"Before": {ask(shift.Before(c, 790, 30)), yes(700)},
	})
}

// P12.4: the third example of the chapter.
func TestThirdExample(t *testing.T) {
	c := example()
	checkAll(t, map[string][2]answer{
		"0 and 200":   {ask(shift.Whole(c, 0, 200)), yes(480)},
		"600 and 130": {ask(shift.Whole(c, 600, 130)), yes(780)},
		"800 and 200": {ask(shift.Whole(c, 800, 200)), yes(20640)},
	})
}

// P12.1: minutes of work are those of shifts of days that are not free.
func TestOpen(t *testing.T) {
	c := example()
	late := free(hours(3, 0, 10, 4, 1439, 1440, 7, 100, 200), 9998)
	for _, x := range []struct {
		c      shift.Calendar
		minute int
		want   bool
	}{
		{c, 0, false}, {c, 479, false}, {c, 480, true}, {c, 719, true}, {c, 720, false}, {c, 779, false}, {c, 780, true}, {c, 959, true}, {c, 960, false},
		{c, day + 480, true}, {c, day + 599, true}, {c, day + 600, false}, {c, day + 780, false},
		{c, 2*day + 480, false}, {c, 6*day + 480, false},
		{c, week + 480, false}, {c, week + 800, false}, {c, week + day + 480, true}, {c, 2*week + 480, true},
		{c, end, false}, {c, end - 1, false},
		{late, 2*day - 1, false}, {late, 2 * day, true}, {late, 2*day + 9, true}, {late, 2*day + 10, false},
		{late, 3 * day, false}, {late, 4*day - 2, false}, {late, 4*day - 1, true}, {late, 4 * day, false},
		{late, 6*day + 100, true}, {late, 6*day + 200, false}, {late, 9994*day + 5, false}, {late, 9995*day + 5, false},
		{late, 9998*day + 5, false}, {late, 9991*day + 5, true}, {late, end - 1, true}, {late, end, false},
		{always(), 0, true}, {always(), end - 1, true}, {always(), end, false},
		{shift.Calendar{}, 0, false}, {shift.Calendar{}, end, false},
	} {
		if got, e := shift.Open(x.c, x.minute); got != x.want || e != api.OK {
			t.Errorf("Open of %v at %d: %v, %d", x.c, x.minute, got, e)
		}
	}
}

// P12.2: minutes of work between two minutes, of which the first one counts and the second one does not.
func TestWork(t *testing.T) {
	c := example()
	for _, x := range []struct {
		c              shift.Calendar
		from, to, want int
	}{
		{c, 0, 0, 0}, {c, 500, 500, 0}, {c, 480, 481, 1}, {c, 479, 480, 0}, {c, 719, 720, 1}, {c, 720, 721, 0}, {c, 700, 790, 30}, {c, 500, 600, 100}, {c, 0, day, 420},
		{c, 0, week, 540}, {c, week, 2 * week, 120}, {c, 100, 2*week + 481, 661}, {c, end, end, 0}, {c, end - 1, end, 0},
		{always(), 0, end, end}, {always(), 5, end - 7, end - 12}, {always(), end - 1, end, 1}, {always(), end, end, 0},
		{free(always().Shifts, 0, 9999), 0, end, end - 2*day}, {free(always().Shifts, 0, 9999), end - day, end, 0},
		{shift.Calendar{}, 0, end, 0},
	} {
		if got := ask(shift.Work(x.c, x.from, x.to)); got != yes(x.want) {
			t.Errorf("Work of %v from %d to %d: %v, want %d", x.c, x.from, x.to, got, x.want)
		}
	}
}

// P12.2: the least minute of work that is at least the given one.
func TestNext(t *testing.T) {
	c := example()
	last := free(hours(4, 10, 20))
	checkAll(t, map[string][2]answer{
		"the first":                   {ask(shift.Next(c, 0)), yes(480)},
		"a minute of work":            {ask(shift.Next(c, 480)), yes(480)},
		"the last one of a shift":     {ask(shift.Next(c, 719)), yes(719)},
		"behind the day":              {ask(shift.Next(c, day)), yes(1920)},
		"over a free day":             {ask(shift.Next(c, 2*day)), yes(week + day + 480)},
		"on a free day":               {ask(shift.Next(c, week+500)), yes(week + day + 480)},
		"the last of all":             {ask(shift.Next(last, end-day)), yes(end - day + 10)},
		"nothing behind the last one": {ask(shift.Next(last, end-day+20)), no(api.ErrNone)},
		"the end":                     {ask(shift.Next(always(), end)), no(api.ErrNone)},
		"the end of all work":         {ask(shift.Next(always(), end-1)), yes(end - 1)},
		"no shifts":                   {ask(shift.Next(shift.Calendar{}, 0)), no(api.ErrNone)},
		"no shifts but free days":     {ask(shift.Next(free(nil, 1, 2), 0)), no(api.ErrNone)},
		"a free week":                 {ask(shift.Next(free(always().Shifts, 1, 2, 3, 4, 5, 6, 7), day)), yes(8 * day)},
	})
}

// P12.3: the least minute behind which so much work is done; without work it is the given one.
func TestAfter(t *testing.T) {
	c := example()
	checkAll(t, map[string][2]answer{
		"nothing":                      {ask(shift.After(c, 100, 0)), yes(100)},
		"nothing within a shift":       {ask(shift.After(c, 500, 0)), yes(500)},
		"nothing at the end":           {ask(shift.After(c, end, 0)), yes(end)},
		"nothing without shifts":       {ask(shift.After(shift.Calendar{}, 9, 0)), yes(9)},
		"a minute":                     {ask(shift.After(c, 100, 1)), yes(481)},
		"a whole shift":                {ask(shift.After(c, 0, 240)), yes(720)},
		"a minute more":                {ask(shift.After(c, 0, 241)), yes(781)},
		"the end of a day":             {ask(shift.After(c, 0, 420)), yes(960)},
		"the next day":                 {ask(shift.After(c, 0, 421)), yes(1921)},
		"from a break":                 {ask(shift.After(c, 750, 10)), yes(790)},
		"over a free day":              {ask(shift.After(c, 0, 541)), yes(week + day + 481)},
		"all minutes":                  {ask(shift.After(always(), 0, end)), yes(end)},
		"one minute more than all":     {ask(shift.After(always(), 1, end)), no(api.ErrNone)},
		"the last minute":              {ask(shift.After(always(), end-1, 1)), yes(end)},
		"a minute at the end":          {ask(shift.After(always(), end, 1)), no(api.ErrNone)},
		"no shifts":                    {ask(shift.After(shift.Calendar{}, 0, 1)), no(api.ErrNone)},
		"the last shift":               {ask(shift.After(free(hours(4, 10, 20)), end-day, 10)), yes(end - day + 20)},
		"one more than the last shift": {ask(shift.After(free(hours(4, 10, 20)), end-day, 11)), no(api.ErrNone)},
	})
}

// P12.3: the greatest minute from which on so much work is done; without work it is the given one.
func TestBefore(t *testing.T) {
	c := example()
	checkAll(t, map[string][2]answer{
		"nothing":                 {ask(shift.Before(c, 100, 0)), yes(100)},
		"nothing within a shift":  {ask(shift.Before(c, 500, 0)), yes(500)},
		"nothing at the end":      {ask(shift.Before(c, end, 0)), yes(end)},
		"nothing without shifts":  {ask(shift.Before(shift.Calendar{}, 9, 0)), yes(9)},
		"a minute":                {ask(shift.Before(c, 500, 1)), yes(499)},
		"the first minute":        {ask(shift.Before(c, 481, 1)), yes(480)},
		"a minute of the past":    {ask(shift.Before(c, 770, 1)), yes(719)},
		"a whole shift":           {ask(shift.Before(c, 770, 240)), yes(480)},
		"more than there is":      {ask(shift.Before(c, 770, 241)), no(api.ErrNone)},
		"over a break":            {ask(shift.Before(c, 781, 2)), yes(719)},
		"up to a break":           {ask(shift.Before(c, 781, 1)), yes(780)},
		"over a free day":         {ask(shift.Before(c, week+day+481, 2)), yes(day + 599)},
		"all minutes":             {ask(shift.Before(always(), end, end)), yes(0)},
		"one minute more":         {ask(shift.Before(always(), end-1, end)), no(api.ErrNone)},
		"all but one minute":      {ask(shift.Before(always(), end, end-1)), yes(1)},
		"no shifts":               {ask(shift.Before(shift.Calendar{}, end, 1)), no(api.ErrNone)},
		"a minute at the begin":   {ask(shift.Before(always(), 0, 1)), no(api.ErrNone)},
		"of the last shift":       {ask(shift.Before(free(hours(4, 10, 20)), end, 10)), yes(end - day + 10)},
		"the very first minute":   {ask(shift.Before(always(), 5, 5)), yes(0)},
		"the begin of the shifts": {ask(shift.Before(c, week, 540)), yes(480)},
	})
}

// P12.4: work without a break, also over shifts that touch each other and over midnight.
func TestWhole(t *testing.T) {
	c := example()
	joined := free(hours(1, 0, 100, 1, 100, 300, 1, 400, 1440, 2, 0, 50, 7, 1000, 1440), 14)
	checkAll(t, map[string][2]answer{
		"nothing in a break":          {ask(shift.Whole(c, 720, 0)), yes(780)},
		"nothing in a shift":          {ask(shift.Whole(c, 500, 0)), yes(500)},
		"a minute in a shift":         {ask(shift.Whole(c, 719, 1)), yes(719)},
		"two minutes at its end":      {ask(shift.Whole(c, 719, 2)), yes(780)},
		"a whole shift":               {ask(shift.Whole(c, 0, 240)), yes(480)},
		"a minute more":               {ask(shift.Whole(c, 0, 241)), no(api.ErrNone)},
		"the rest of a shift":         {ask(shift.Whole(c, 600, 120)), yes(600)},
		"joined shifts":               {ask(shift.Whole(joined, 0, 300)), yes(0)},
		"more than joined shifts":     {ask(shift.Whole(joined, 0, 301)), yes(400)},
		"within joined shifts":        {ask(shift.Whole(joined, 90, 210)), yes(90)},
		"over midnight":               {ask(shift.Whole(joined, 0, 1090)), yes(400)},
		"too long over midnight":      {ask(shift.Whole(joined, 0, 1091)), no(api.ErrNone)},
		"over the week":               {ask(shift.Whole(joined, 1500, 740)), yes(6*day + 1000)},
		"before a free day":           {ask(shift.Whole(joined, week+day, 741)), yes(3*week + 400)},
		"to a free day":               {ask(shift.Whole(joined, week+day, 440)), yes(2*week - day + 1000)},
		"more than up to a free day":  {ask(shift.Whole(joined, week+day, 441)), yes(3*week - day + 1000)},
		"all minutes":                 {ask(shift.Whole(always(), 0, end)), yes(0)},
		"all minutes but one":         {ask(shift.Whole(always(), 1, end-1)), yes(1)},
		"more than all":               {ask(shift.Whole(always(), 1, end)), no(api.ErrNone)},
		"nothing at the end":          {ask(shift.Whole(always(), end, 0)), no(api.ErrNone)},
		"no shifts":                   {ask(shift.Whole(shift.Calendar{}, 0, 0)), no(api.ErrNone)},
		"all minutes behind free day": {ask(shift.Whole(free(always().Shifts, 0), 0, end-day)), yes(day)},
	})
}

// P12.5: common shifts and free days.
func TestCommon(t *testing.T) {
	whole := free(hours(1, 0, 1440, 2, 0, 1440))
	for name, c := range map[string]struct{ a, b, want shift.Calendar }{
		"nothing":                  {},
		"nothing with shifts":      {example(), shift.Calendar{}, free(nil, 7)},
		"a calendar with itself":   {example(), example(), example()},
		"all minutes":              {example(), always(), example()},
		"overlapping shifts":       {free(hours(1, 0, 500, 1, 600, 900)), free(hours(1, 400, 700)), free(hours(1, 400, 500, 1, 600, 700))},
		"shifts that touch":        {free(hours(1, 0, 500)), free(hours(1, 500, 700)), free(nil)},
		"shifts of other days":     {free(hours(1, 0, 500, 3, 0, 9)), free(hours(2, 0, 500, 3, 8, 10)), free(hours(3, 8, 9))},
		"joined shifts":            {free(hours(1, 0, 100, 1, 100, 200, 1, 201, 300)), whole, free(hours(1, 0, 200, 1, 201, 300))},
		"joined shifts of both":    {free(hours(1, 0, 100, 1, 100, 200)), free(hours(1, 0, 50, 1, 50, 300)), free(hours(1, 0, 200))},
		"no joining over midnight": {free(hours(1, 0, 1440, 2, 0, 10)), whole, free(hours(1, 0, 1440, 2, 0, 10))},
		"no joining over days":     {free(hours(1, 0, 500, 2, 500, 900)), whole, free(hours(1, 0, 500, 2, 500, 900))},
		"free days":                {free(hours(1, 0, 9), 1, 3, 5), free(hours(1, 0, 9), 0, 3, 9999), free(hours(1, 0, 9), 0, 1, 3, 5, 9999)},
		"free days of other days":  {free(hours(1, 0, 9), 1), free(hours(2, 0, 9), 2), free(nil, 1, 2)},
	} {
		for range 2 {
			got, e := shift.Common(c.a, c.b)
			if e != api.OK || !same(got, c.want) {
				t.Errorf("Common of %s: %v, %d, want %v", name, got, e, c.want)
			}
			c.a, c.b = c.b, c.a
		}
	}
}

// P12.5: the sum of the lengths of the shifts, whatever days are free.
func TestWeek(t *testing.T) {
	for want, c := range map[int]shift.Calendar{
		0:    {},
		540:  example(),
		week: free(always().Shifts, 0, 1, 2, 3, 4, 5, 6),
		3:    free(hours(1, 5, 6, 1, 6, 7, 7, 1439, 1440), 0, 6),
	} {
		if got := ask(shift.Week(c)); got != yes(want) {
			t.Errorf("Week of %v: %v, want %d", c, got, want)
		}
	}
}

// The Rules: arguments are neither modified nor kept, and results share no memory with them.
func TestCalendarsAreApart(t *testing.T) {
	a, b := example(), free(hours(1, 0, 1440, 2, 0, 1440), 1, 9)
	got, _ := shift.Common(a, b)
	self, _ := shift.Common(a, a)
	got.Shifts[0].From = 1
	got.Free[0] = 100
	self.Shifts[0].From = 1
	self.Free[0] = 100
	alone, _ := shift.Common(a, free(always().Shifts))
	alone.Free[0] = 100
	if !same(a, example()) || !same(b, free(hours(1, 0, 1440, 2, 0, 1440), 1, 9)) {
		t.Errorf("the arguments change: %v, %v", a, b)
	}
}
