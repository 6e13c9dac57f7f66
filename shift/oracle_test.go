package shift_test

import (
	"math/rand"
	"slices"
	"testing"

	"gangsaw/api"
	"gangsaw/shift"
)

// clock has what is defined for all minutes of a calendar.
type clock struct {
	done []int32 // done[m] is the number of minutes of work before m
	run  []int32 // run[m] is the number of minutes of work that follow each other from m on
}

// isOpen reports what the chapter defines as a minute of work.
func isOpen(c shift.Calendar, m int) bool {
	if m >= end || slices.Contains(c.Free, m/day) {
		return false
	}
	for _, s := range c.Shifts {
		if s.Weekday == m/day%7+1 && s.From <= m%day && m%day < s.To {
			return true
		}
	}
	return false
}

// newClock looks at each minute.
func newClock(c shift.Calendar) clock {
	k := clock{make([]int32, end+1), make([]int32, end+1)}
	// What is open does not depend on the week, but for free days.
	var usual [week]bool
	bare := shift.Calendar{Shifts: c.Shifts}
	for m := range usual {
		usual[m] = isOpen(bare, m)
	}
	closed := map[int]bool{}
	for _, d := range c.Free {
		closed[d] = true
	}
	work := make([]bool, end)
	for d := range end / day {
		if !closed[d] {
			copy(work[d*day:(d+1)*day], usual[d%7*day:])
		}
	}
	for m, w := range work {
		k.done[m+1] = k.done[m]
		if w {
			k.done[m+1]++
		}
	}
	for m := end - 1; m >= 0; m-- {
		if work[m] {
			k.run[m] = k.run[m+1] + 1
		}
	}
	return k
}

// after returns the least minute that is defined, or the error.
func (k clock) after(from, work int) answer {
	for t := from; t <= end; t++ {
		if int(k.done[t]-k.done[from]) == work {
			return yes(t)
		}
	}
	return no(api.ErrNone)
}

// before returns the greatest minute that is defined, or the error.
func (k clock) before(to, work int) answer {
	for t := to; t >= 0; t-- {
		if int(k.done[to]-k.done[t]) == work {
			return yes(t)
		}
	}
	return no(api.ErrNone)
}

// whole returns the least minute that is defined, or the error.
func (k clock) whole(from, work int) answer {
	for t := from; t < end; t++ {
		if int(k.run[t]) >= max(work, 1) {
			return yes(t)
		}
	}
	return no(api.ErrNone)
}

// check compares all functions of minutes with the clock.
func (k clock) check(t *testing.T, c shift.Calendar, from, to, work int) {
	t.Helper()
	from, to = min(from, to), max(from, to)
	open, e := shift.Open(c, from)
	if e != api.OK || open != (from < end && k.run[from] > 0) {
		t.Fatalf("Open of %v at %d: %v, %d", c, from, open, e)
	}
	for name, x := range map[string][2]answer{
		"Work":          {ask(shift.Work(c, from, to)), yes(int(k.done[to] - k.done[from]))},
		"Next":          {ask(shift.Next(c, from)), k.whole(from, 0)},
		"After":         {ask(shift.After(c, from, work)), k.after(from, work)},
		"Before":        {ask(shift.Before(c, to, work)), k.before(to, work)},
		"Before little": {ask(shift.Before(c, from, work%30)), k.before(from, work%30)},
		"Whole":         {ask(shift.Whole(c, from, work)), k.whole(from, work)},
		"Whole little":  {ask(shift.Whole(c, from, work%100)), k.whole(from, work%100)},
	} {
		if x[0] != x[1] {
			t.Fatalf("%s of %v with %d, %d and %d: %v, want %v", name, c, from, to, work, x[0], x[1])
		}
	}
}

// someShifts returns random shifts of which many touch each other, some over midnight.
func someShifts(random *rand.Rand, most int) []api.Shift {
	var out []api.Shift
	for weekday := 1; weekday <= 7; weekday++ {
		at := 0
		for range random.Intn(most + 1) {
			if random.Intn(2) == 0 {
				at += random.Intn(400)
			}
			to := at + 1 + random.Intn(500)
			if random.Intn(5) == 0 {
				to = day
			}
			if at >= day || to > day {
				break
			}
			out = append(out, hours(weekday, at, to)...)
			at = to
		}
	}
	return out
}

// someDays returns random free days, in order.
func someDays(random *rand.Rand, most int) []int {
	var out []int
	for range random.Intn(most + 1) {
		d := random.Intn(30)
		if random.Intn(3) == 0 {
			d = random.Intn(10000)
		}
		out = append(out, d)
	}
	slices.Sort(out)
	return slices.Compact(out)
}

// P12.1 to P12.4: random calendars answer what is defined, minute by minute.
func TestAgainstAllMinutes(t *testing.T) {
	random := rand.New(rand.NewSource(12))
	for round := range 12 {
		c := free(someShifts(random, 1+round%9), someDays(random, round*5)...)
		k := newClock(c)
		for range 40 {
			from, to := random.Intn(5*week), random.Intn(5*week)
			k.check(t, c, from, to, random.Intn(1500))
			k.check(t, c, from, from, 0)
			k.check(t, c, end-from, end-to, random.Intn(1500))
		}
		for range 4 {
			k.check(t, c, random.Intn(end+1), random.Intn(end+1), random.Intn(end))
		}
		for _, m := range []int{0, 1, day - 1, day, end - 1, end} {
			k.check(t, c, m, m, 1)
			k.check(t, c, 0, m, int(k.done[m]))
			k.check(t, c, 0, m, int(k.done[m])+1)
		}
	}
}

// P12.5: random calendars have the common minutes in as few shifts as possible.
func TestCommonOfRandomCalendars(t *testing.T) {
	random := rand.New(rand.NewSource(5))
	for round := range 300 {
		a := free(someShifts(random, 1+round%6), someDays(random, 9)...)
		b := free(someShifts(random, 1+round%5), someDays(random, 9)...)
		c, e := shift.Common(a, b)
		if e != api.OK || shift.Check(c) != api.OK {
			t.Fatalf("Common of %v and %v: %v, %d", a, b, c, e)
		}
		checkCommon(t, a, b, c)
	}
}

func checkCommon(t *testing.T, a, b, c shift.Calendar) {
	t.Helper()
	shiftsA, shiftsB, shiftsC := shift.Calendar{Shifts: a.Shifts}, shift.Calendar{Shifts: b.Shifts}, shift.Calendar{Shifts: c.Shifts}
	begins := 0
	last := false
	for m := range week {
		now := isOpen(shiftsA, m) && isOpen(shiftsB, m)
		if now != isOpen(shiftsC, m) {
			t.Fatalf("Common of %v and %v: %v, at %d", a, b, c, m)
		}
		if now && (!last || m%day == 0) {
			begins++
		}
		last = now
	}
	if len(c.Shifts) != begins {
		t.Fatalf("Common of %v and %v: %v has more than %d shifts", a, b, c, begins)
	}
	for d := range 10000 {
		if slices.Contains(c.Free, d) != (slices.Contains(a.Free, d) || slices.Contains(b.Free, d)) {
			t.Fatalf("Common of %v and %v: %v, on day %d", a, b, c, d)
		}
	}
}

// P12.6: the consequences that the chapter names.
func TestProperties(t *testing.T) {
	random := rand.New(rand.NewSource(126))
	for round := range 150 {
		c := free(someShifts(random, 1+round%4), someDays(random, 20)...)
		points := []int{random.Intn(4 * week), random.Intn(4 * week), random.Intn(4 * week)}
		slices.Sort(points)
		first, _ := shift.Work(c, points[0], points[1])
		second, _ := shift.Work(c, points[1], points[2])
		if sum := ask(shift.Work(c, points[0], points[2])); sum != yes(first+second) {
			t.Fatalf("Work of %v from %v is not additive: %v", c, points, sum)
		}
		checkAfter(t, c, points[0], points[1])
		checkJoined(t, c, free(someShifts(random, 3), someDays(random, 20)...))
		checkWeeks(t, c)
	}
}

// checkAfter checks that After undoes Work up to minutes without work, does exactly so much, and is not earlier with more work.
func checkAfter(t *testing.T, c shift.Calendar, from, to int) {
	t.Helper()
	work, _ := shift.Work(c, from, to)
	at, e := shift.After(c, from, work)
	rest, _ := shift.Work(c, at, to)
	done, _ := shift.Work(c, from, at)
	if e != api.OK || at > to || rest != 0 || done != work {
		t.Fatalf("After of %v with %d and %d: %d, %d", c, from, work, at, e)
	}
	if more, e := shift.After(c, from, work+1); e == api.OK && more <= at {
		t.Fatalf("After of %v with %d and %d: %d, and with one more %d", c, from, work, at, more)
	}
	back, e := shift.Before(c, to, work)
	left, _ := shift.Work(c, back, to)
	if e != api.OK || back < from || left != work {
		t.Fatalf("Before of %v with %d and %d: %d, %d", c, to, work, back, e)
	}
}

// checkJoined checks that Common is commutative, and idempotent up to joined shifts.
func checkJoined(t *testing.T, a, b shift.Calendar) {
	t.Helper()
	ab, e1 := shift.Common(a, b)
	ba, e2 := shift.Common(b, a)
	if e1 != e2 || !same(ab, ba) {
		t.Fatalf("Common of %v and %v: %v, the other way round %v", a, b, ab, ba)
	}
	joined, _ := shift.Common(a, a)
	again, _ := shift.Common(joined, joined)
	mixed, _ := shift.Common(a, joined)
	length, _ := shift.Week(joined)
	if !same(joined, again) || !same(joined, mixed) || !slices.Equal(joined.Free, a.Free) || ask(shift.Week(a)) != yes(length) {
		t.Fatalf("Common of %v and itself: %v, again %v", a, joined, again)
	}
}

// checkWeeks checks that each week without free days has Week minutes of work.
func checkWeeks(t *testing.T, c shift.Calendar) {
	t.Helper()
	all, _ := shift.Week(c)
	for _, w := range []int{0, 1, 2, 3, 4, 5, 700, 1427} {
		whole := !slices.ContainsFunc(c.Free, func(d int) bool { return d/7 == w })
		if got := ask(shift.Work(c, w*week, (w+1)*week)); whole && got != yes(all) || got.n > all {
			t.Fatalf("Work of %v in week %d: %v, want %d", c, w, got, all)
		}
	}
}
