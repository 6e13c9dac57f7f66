package boring_test

import (
	"fmt"
	"math"
	"slices"
	"strings"
	"testing"

	"gangsaw/api"
	"gangsaw/boring"
)

// pit is the pit of the tests of errors.
func pit() api.Box { return boxOf(0, 0, 0, 100, 100, 100) }

// breaking is a change of a boring, and the errors that it leads to: in the pit, and for formed borings.
type breaking struct {
	name            string
	inPit, isFormed api.Errno
	apply           func(b *api.Boring)
}

func nameBreaks() []breaking {
	var list []breaking
	for _, name := range []string{"", "B", "1", "b-c", "_b", "b c", strings.Repeat("b", api.MaxName+1)} {
		list = append(list, breaking{"name " + name, api.ErrName, api.ErrName, func(b *api.Boring) { b.Name = name }})
	}
	return list
}

func lengthBreaks() []breaking {
	return []breaking{{"too many logs", api.ErrTooMany, api.ErrTooMany, func(b *api.Boring) {
		for len(b.Logs) <= api.MaxLogs {
			b.Logs = append(b.Logs, sound(30+len(b.Logs), 31+len(b.Logs)))
		}
	}}}
}

func logBreaks() []breaking {
	invalid := func(name string, apply func(b *api.Boring)) breaking {
		return breaking{name, api.ErrInvalid, api.ErrInvalid, apply}
	}
	list := []breaking{
		invalid("empty log", func(b *api.Boring) { b.Logs[1].Lo = b.Logs[1].Hi }),
		invalid("turned log", func(b *api.Boring) { b.Logs[0].Lo, b.Logs[0].Hi = b.Logs[0].Hi, b.Logs[0].Lo }),
	}
	for _, state := range []int{api.Unseen, api.Clash, -1, 4, math.MinInt, math.MaxInt} {
		list = append(list, invalid(fmt.Sprint("state ", state), func(b *api.Boring) { b.Logs[2].State = state }))
	}
	return list
}

// placeBreaks are outside of the pit, and some of them of all pits.
func placeBreaks() []breaking {
	outside := func(name string, isFormed api.Errno, apply func(b *api.Boring)) breaking {
		return breaking{name, api.ErrOutside, isFormed, apply}
	}
	var list []breaking
	for _, x := range []int{-1, 100, -api.MaxCoord, api.MaxCoord - 1} {
		list = append(list,
			outside(fmt.Sprint("x ", x), api.OK, func(b *api.Boring) { b.At.X = x }),
			outside(fmt.Sprint("y ", x), api.OK, func(b *api.Boring) { b.At.Y = x }))
	}
	for _, x := range []int{-api.MaxCoord - 1, api.MaxCoord, math.MinInt, math.MaxInt} {
		list = append(list,
			outside(fmt.Sprint("x ", x), api.ErrRange, func(b *api.Boring) { b.At.X = x }),
			outside(fmt.Sprint("y ", x), api.ErrRange, func(b *api.Boring) { b.At.Y = x }))
	}
	return append(list,
		outside("log from below", api.OK, func(b *api.Boring) { b.Logs[0].Lo = -1 }),
		outside("log to above", api.OK, func(b *api.Boring) { b.Logs[2].Hi = 101 }),
		outside("log from the least z", api.OK, func(b *api.Boring) { b.Logs[0].Lo = -api.MaxCoord }),
		outside("log to the greatest z", api.OK, func(b *api.Boring) { b.Logs[2].Hi = api.MaxCoord }),
		outside("log from far below", api.ErrRange, func(b *api.Boring) { b.Logs[0].Lo = -api.MaxCoord - 1 }),
		outside("log to far above", api.ErrRange, func(b *api.Boring) { b.Logs[2].Hi = api.MaxCoord + 1 }),
		outside("endless log", api.ErrRange, func(b *api.Boring) { b.Logs = []api.Log{sound(math.MinInt, math.MaxInt)} }),
	)
}

func orderBreaks() []breaking {
	overlap := func(name string, apply func(b *api.Boring)) breaking {
		return breaking{name, api.ErrOverlap, api.ErrOverlap, apply}
	}
	return []breaking{
		overlap("logs overlap", func(b *api.Boring) { b.Logs[1].Lo = 9 }),
		overlap("last log overlaps", func(b *api.Boring) { b.Logs[2].Lo = 19 }),
		overlap("log in another one", func(b *api.Boring) { b.Logs[1] = sound(3, 4) }),
		overlap("equal logs", func(b *api.Boring) { b.Logs[1] = b.Logs[0] }),
		overlap("logs decrease", func(b *api.Boring) { b.Logs[0], b.Logs[2] = b.Logs[2], b.Logs[0] }),
	}
}

func noBreaks() []breaking {
	fine := func(name string, apply func(b *api.Boring)) breaking { return breaking{name, api.OK, api.OK, apply} }
	return []breaking{
		fine("nothing", func(b *api.Boring) {}),
		fine("no logs", func(b *api.Boring) { b.Logs = nil }),
		fine("ends of the pit", func(b *api.Boring) { b.At, b.Logs = api.Point{X: 0, Y: 99}, []api.Log{sound(0, 100)} }),
		fine("other ends of the pit", func(b *api.Boring) { b.At, b.Logs = api.Point{X: 99}, []api.Log{sound(0, 1), flawed(99, 100)} }),
		fine("long name", func(b *api.Boring) { b.Name = strings.Repeat("b", api.MaxName) }),
		fine("as many logs as there may be", func(b *api.Boring) {
			b.Logs = nil
			for i := range api.MaxLogs {
				b.Logs = append(b.Logs, flawed(i, i+1))
			}
		}),
	}
}

func allBreaks() []breaking {
	return slices.Concat(nameBreaks(), lengthBreaks(), logBreaks(), placeBreaks(), orderBreaks())
}

// formedCalls are the functions for formed borings: whether their results are zero, and their errors.
func formedCalls() map[string]func(b api.Boring) (bool, api.Errno) {
	isZero := func(b api.Boring) bool { return equal(b, api.Boring{}) }
	return map[string]func(b api.Boring) (bool, api.Errno){
		"Normal": func(b api.Boring) (bool, api.Errno) {
			n, e := boring.Normal(b)
			return isZero(n), e
		},
		"Evidence": func(b api.Boring) (bool, api.Errno) {
			list, e := boring.Evidence(b)
			return len(list) == 0, e
		},
		"Merge, first": func(b api.Boring) (bool, api.Errno) {
			m, e := boring.Merge(b, api.Boring{Name: "other", At: b.At})
			return isZero(m), e
		},
		"Merge, second": func(b api.Boring) (bool, api.Errno) {
			m, e := boring.Merge(at("other"), b)
			if b.At != at("other").At && e == api.ErrConflict {
				// The other boring is not at this point, unless an error counts before that.
				e = api.OK
			}
			return isZero(m), e
		},
		"Line": func(b api.Boring) (bool, api.Errno) {
			l, e := boring.Line(b)
			return l.Tokens == nil && l.Kids == nil && !l.Heading, e
		},
	}
}

// pitCalls are the functions for borings in the pit.
func pitCalls() map[string]func(b api.Boring) (bool, api.Errno) {
	return map[string]func(b api.Boring) (bool, api.Errno){
		"Check": func(b api.Boring) (bool, api.Errno) { return true, boring.Check(b, pit()) },
		"CheckAll": func(b api.Boring) (bool, api.Errno) {
			return true, boring.CheckAll([]api.Boring{at("a"), b, at("c")}, pit())
		},
		"Against": func(b api.Boring) (bool, api.Errno) {
			list, e := boring.Against(b, surveyWith(square("f", 0, 100, 0, 100)))
			return len(list) == 0, e
		},
	}
}

// P14.1 to P14.3, P14.5: each row of the table.
func TestErrorsOfBorings(t *testing.T) {
	for _, c := range slices.Concat(noBreaks(), allBreaks()) {
		b := b1()
		c.apply(&b)
		for name, call := range formedCalls() {
			if zero, e := call(b); e != c.isFormed || e != api.OK && !zero {
				t.Errorf("%s, %s: %v, %d", name, c.name, zero, e)
			}
		}
		for name, call := range pitCalls() {
			if zero, e := call(b); e != c.inPit || e != api.OK && !zero {
				t.Errorf("%s, %s: %v, %d", name, c.name, zero, e)
			}
		}
	}
}

// P1: of two errors, the one of the row above counts, in one boring, and in two of a list.
func TestOrderOfErrors(t *testing.T) {
	rows := [][]breaking{nameBreaks(), lengthBreaks(), logBreaks(), placeBreaks(), orderBreaks()}
	for i, row := range rows {
		for _, first := range row {
			for _, later := range slices.Concat(rows[i+1:]...) {
				b, other := b1(), at("other", b1().Logs...)
				later.apply(&other)
				first.apply(&b)
				for _, list := range [][]api.Boring{{b, other}, {other, b}} {
					if e := boring.CheckAll(list, pit()); e != first.inPit {
						t.Errorf("CheckAll, %s, and another boring with %s: %d", first.name, later.name, e)
					}
				}
				checkBoth(t, first, later)
			}
		}
	}
}

// checkBoth checks that of two errors in one boring the first one counts.
func checkBoth(t *testing.T, first, later breaking) {
	t.Helper()
	b := b1()
	later.apply(&b)
	if len(b.Logs) < len(b1().Logs) {
		return // Nothing is left that the first one could change.
	}
	first.apply(&b)
	for name, call := range pitCalls() {
		if _, e := call(b); e != first.inPit {
			t.Errorf("%s, %s and %s: %d", name, first.name, later.name, e)
		}
	}
	want := first.isFormed
	if want == api.OK {
		want = later.isFormed
	}
	for name, call := range formedCalls() {
		if _, e := call(b); e != want {
			t.Errorf("%s, %s and %s: %d", name, first.name, later.name, e)
		}
	}
}

// P14.1: the errors of pits and lists, in their order.
func TestErrorsOfPits(t *testing.T) {
	bad, turned := pit(), pit()
	bad.Max.X = api.MaxCoord + 1
	turned.Min.Y = turned.Max.Y
	nameless := at("")
	for _, c := range []struct {
		pit  api.Box
		want api.Errno
	}{
		{bad, api.ErrRange},
		{turned, api.ErrInvalid},
		{api.Box{}, api.ErrInvalid},
		{pit(), api.ErrName},
	} {
		if e := boring.Check(nameless, c.pit); e != c.want {
			t.Errorf("Check in %v: %d", c.pit, e)
		}
		if e := boring.CheckAll([]api.Boring{b1(), nameless}, c.pit); e != c.want {
			t.Errorf("CheckAll in %v: %d", c.pit, e)
		}
		if e := boring.CheckAll(make([]api.Boring, api.MaxBorings+1), c.pit); e != api.ErrTooMany {
			t.Errorf("CheckAll of too many borings in %v: %d", c.pit, e)
		}
	}
	if e := boring.CheckAll(nil, bad); e != api.ErrRange {
		t.Errorf("CheckAll of no borings in no pit: %d", e)
	}
	if e := boring.CheckAll(nil, pit()); e != api.OK {
		t.Errorf("CheckAll of no borings: %d", e)
	}
}

// P14.1: borings of a list have different names, and may be at one point.
func TestErrorsOfLists(t *testing.T) {
	var list []api.Boring
	for i := range api.MaxBorings {
		list = append(list, at(fmt.Sprintf("b%d", i), b1().Logs...))
	}
	if e := boring.CheckAll(list, pit()); e != api.OK {
		t.Errorf("CheckAll of many borings: %d", e)
	}
	list[63].Name = "b7"
	if e := boring.CheckAll(list, pit()); e != api.ErrDuplicate {
		t.Errorf("CheckAll of two borings with one name: %d", e)
	}
	list[20].Logs[2].Lo = 19
	if e := boring.CheckAll(list, pit()); e != api.ErrOverlap {
		t.Errorf("CheckAll of two borings with one name and logs that overlap: %d", e)
	}
}

// P14.3: the errors of the survey count first.
func TestErrorsOfAgainst(t *testing.T) {
	s := surveyWith(square("f", 0, 10, 15, 40), square("e", 0, 10, 15, 40))
	if list, e := boring.Against(at(""), s); e != api.ErrDuplicate || len(list) != 0 {
		t.Errorf("Against a survey that is not valid: %v, %d", list, e)
	}
	s = surveyWith()
	s.Pit.Max.Z = 0
	if list, e := boring.Against(b1(), s); e != api.ErrInvalid || len(list) != 0 {
		t.Errorf("Against a survey without a pit: %v, %d", list, e)
	}
	s = surveyWith()
	s.Pit.Max.Z = 29
	if list, e := boring.Against(b1(), s); e != api.ErrOutside || len(list) != 0 {
		t.Errorf("Against a survey of a lower pit: %v, %d", list, e)
	}
}

// P14.3: all errors of the first boring count before those of the second one, and these before what they say together.
func TestOrderOfErrorsOfMerge(t *testing.T) {
	for _, first := range allBreaks() {
		for _, second := range allBreaks() {
			a, b := b1(), b1()
			first.apply(&a)
			second.apply(&b)
			want := first.isFormed
			if want == api.OK {
				want = second.isFormed
			}
			if want == api.OK && a.At != b.At {
				want = api.ErrConflict
			}
			if _, e := boring.Merge(a, b); e != want {
				t.Errorf("Merge, %s and %s: %d", first.name, second.name, e)
			}
		}
	}
}

// P14.4: there is no nearest one of none, and all points have to be in range.
func TestErrorsOfNearest(t *testing.T) {
	far := []api.Point{{X: api.MaxCoord + 1}, {X: -api.MaxCoord - 1}, {Y: api.MaxCoord + 1}, {Y: -api.MaxCoord - 1}, {X: math.MinInt}, {Y: math.MaxInt}}
	for _, p := range far {
		if i, e := boring.Nearest(nil, p); i != 0 || e != api.ErrNone {
			t.Errorf("Nearest of none: %d, %d", i, e)
		}
		if i, e := boring.Nearest([]api.Boring{at("a"), {}}, p); i != 0 || e != api.ErrRange {
			t.Errorf("Nearest to %v: %d, %d", p, i, e)
		}
		if i, e := boring.Nearest([]api.Boring{at("a"), {}, {At: p}}, api.Point{}); i != 0 || e != api.ErrRange {
			t.Errorf("Nearest with a boring at %v: %d, %d", p, i, e)
		}
	}
	if i, e := boring.Nearest([]api.Boring{}, api.Point{}); i != 0 || e != api.ErrNone {
		t.Errorf("Nearest of none: %d, %d", i, e)
	}
}
