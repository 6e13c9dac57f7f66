package model_test

import (
	"fmt"
	"math"
	"slices"
	"strings"
	"testing"

	"gangsaw/api"
	"gangsaw/model"
)

// breaking is a change of four elements of evidence, and the error of Check that it leads to.
type breaking struct {
	name  string
	code  api.Errno
	apply func(list []api.Evidence) []api.Evidence
}

// valid returns the evidence that is broken.
func valid() []api.Evidence {
	return []api.Evidence{sound("a", cube(0, 10)), flawed("b", cube(5, 15)), sound("a", cube(7, 8)), flawed("c", cube(0, 3))}
}

// element returns a change of the element with an index.
func element(i int, change func(e *api.Evidence)) func(list []api.Evidence) []api.Evidence {
	return func(list []api.Evidence) []api.Evidence {
		change(&list[i])
		return list
	}
}

func lengthBreaks() []breaking {
	return []breaking{{"too many elements", api.ErrTooMany, func(list []api.Evidence) []api.Evidence {
		for len(list) <= api.MaxEvidence {
			list = append(list, sound("more", cube(0, 1)))
		}
		return list
	}}}
}

func nameBreaks() []breaking {
	var list []breaking
	for i, name := range []string{"", " ", " a", "a ", "a\"b", "\"", "a\x1fb", "a\x7fb", "\n", "ä", "a\x80", "a\x00b", strings.Repeat("a", api.MaxLabel+1)} {
		list = append(list, breaking{fmt.Sprintf("source %q", name), api.ErrName, element(i%4, func(e *api.Evidence) { e.Source = name })})
	}
	return list
}

// boxBreaks are changes of the element with an index.
func boxBreaks(i int) []breaking {
	var list []breaking
	for k, at := range []func(b *api.Box) *int{
		func(b *api.Box) *int { return &b.Min.X },
		func(b *api.Box) *int { return &b.Min.Y },
		func(b *api.Box) *int { return &b.Min.Z },
		func(b *api.Box) *int { return &b.Max.X },
		func(b *api.Box) *int { return &b.Max.Y },
		func(b *api.Box) *int { return &b.Max.Z },
	} {
		for _, n := range []int{-most - 1, most + 1, math.MinInt, math.MaxInt} {
			list = append(list, breaking{fmt.Sprintf("coordinate %d of %d is %d", k, i, n), api.ErrRange, element(i, func(e *api.Evidence) { *at(&e.Box) = n })})
		}
		n := []int{20, -20}[k/3]
		list = append(list, breaking{fmt.Sprintf("coordinate %d of %d is %d", k, i, n), api.ErrInvalid, element(i, func(e *api.Evidence) { *at(&e.Box) = n })})
	}
	return append(list,
		breaking{"no x", api.ErrInvalid, element(i, func(e *api.Evidence) { e.Box.Max.X = e.Box.Min.X })},
		breaking{"no y", api.ErrInvalid, element(i, func(e *api.Evidence) { e.Box.Max.Y = e.Box.Min.Y })},
		breaking{"no z", api.ErrInvalid, element(i, func(e *api.Evidence) { e.Box.Max.Z = e.Box.Min.Z })},
		breaking{"no box", api.ErrInvalid, element(i, func(e *api.Evidence) { e.Box = api.Box{} })})
}

func stateBreaks() []breaking {
	var list []breaking
	for i, state := range []int{api.Unseen, api.Clash, -1, 4, math.MinInt, math.MaxInt} {
		list = append(list, breaking{fmt.Sprint("state ", state), api.ErrInvalid, element(i%4, func(e *api.Evidence) { e.State = state })})
	}
	return list
}

// rows are the breaks in the order of the table.
func rows() [][]breaking {
	return [][]breaking{lengthBreaks(), nameBreaks(), slices.Concat(boxBreaks(0), boxBreaks(3)), stateBreaks()}
}

// call is a call of a function with evidence and arguments that lead to an error of their own if the evidence is valid, or to none: whether its result is zero, and its error.
type call struct {
	name     string
	own      api.Errno
	function func(list []api.Evidence) (bool, api.Errno)
}

// calls are calls of all functions with evidence.
func calls() []call {
	var list []call
	add := func(name string, own api.Errno, function func(list []api.Evidence) (bool, api.Errno)) {
		list = append(list, call{name, own, function})
	}
	add("Check", api.OK, func(list []api.Evidence) (bool, api.Errno) { return true, model.Check(list) })
	add("Clashes", api.OK, func(list []api.Evidence) (bool, api.Errno) {
		pairs, e := model.Clashes(list)
		return len(pairs) == 0, e
	})
	add("Without", api.OK, func(list []api.Evidence) (bool, api.Errno) {
		rest, e := model.Without(list, "b")
		return len(rest) == 0, e
	})
	for cell, own := range cellErrors() {
		add(fmt.Sprint("State of ", cell), own, func(list []api.Evidence) (bool, api.Errno) {
			state, e := model.State(list, cell)
			return state == 0, e
		})
		add(fmt.Sprint("Sources of ", cell), own, func(list []api.Evidence) (bool, api.Errno) {
			sources, e := model.Sources(list, cell)
			return len(sources) == 0, e
		})
	}
	for index, own := range map[int]api.Errno{0: api.OK, 3: api.OK, 4: api.ErrRange, -1: api.ErrRange, math.MinInt: api.ErrRange, math.MaxInt: api.ErrRange} {
		add(fmt.Sprint("Useless of ", index), own, func(list []api.Evidence) (bool, api.Errno) {
			useless, e := model.Useless(list, index)
			return !useless, e
		})
	}
	return append(list, boxCalls()...)
}

// boxCalls are calls of the functions with a box and a state.
func boxCalls() []call {
	var list []call
	for b, boxError := range boxErrors() {
		for state, own := range stateErrors() {
			if boxError != api.OK {
				own = boxError
			}
			name := fmt.Sprintf(" of %v and %d", b, state)
			list = append(list,
				call{"Volume" + name, own, func(list []api.Evidence) (bool, api.Errno) {
					volume, e := model.Volume(list, b, state)
					return volume == 0, e
				}},
				call{"First" + name, own, func(list []api.Evidence) (bool, api.Errno) {
					cell, e := model.First(list, b, state)
					return cell == api.Vec{}, e
				}},
				call{"All" + name, own, func(list []api.Evidence) (bool, api.Errno) {
					all, e := model.All(list, b, state)
					return !all, e
				}})
		}
	}
	return list
}

// cellErrors are points, and whether there are cells of them.
func cellErrors() map[api.Vec]api.Errno {
	list := map[api.Vec]api.Errno{vec(5): api.OK, vec(-most): api.OK, vec(most - 1): api.OK}
	for _, n := range []int{-most - 1, most, math.MinInt, math.MaxInt} {
		list[api.Vec{X: n}], list[api.Vec{Y: n}], list[api.Vec{Z: n}] = api.ErrRange, api.ErrRange, api.ErrRange
	}
	return list
}

// boxErrors are boxes, and their errors. The valid one has cells with all states of the valid evidence.
func boxErrors() map[api.Box]api.Errno {
	return map[api.Box]api.Errno{
		cube(-1, 20):                         api.OK,
		boxOf(-most-1, 0, 0, 9, 9, 9):        api.ErrRange,
		boxOf(0, 0, 0, 9, most+1, 9):         api.ErrRange,
		boxOf(0, 0, math.MaxInt, 9, 9, 9):    api.ErrRange,
		boxOf(0, 0, 9, 9, most+1, 9):         api.ErrRange,
		boxOf(5, 0, 0, 5, 9, 9):              api.ErrInvalid,
		boxOf(0, 0, 0, 9, 0, 9):              api.ErrInvalid,
		boxOf(0, 0, 9, 9, 9, 5):              api.ErrInvalid,
		{}:                                   api.ErrInvalid,
		boxOf(0, 0, 0, 9, 9, math.MinInt):    api.ErrRange,
		boxOf(most, most, most, most, 0, 0):  api.ErrInvalid,
		boxOf(most, most, most, most, 0, -1): api.ErrInvalid,
	}
}

func stateErrors() map[int]api.Errno {
	return map[int]api.Errno{
		api.Unseen: api.OK, api.Sound: api.OK, api.Flawed: api.OK, api.Clash: api.OK,
		-1: api.ErrInvalid, 4: api.ErrInvalid, math.MinInt: api.ErrInvalid, math.MaxInt: api.ErrInvalid,
	}
}

// P15.1, P1: each row of the table for each function; the errors of the evidence come before those of other arguments.
func TestErrors(t *testing.T) {
	for _, c := range calls() {
		if zero, e := c.function(valid()); e != c.own || e != api.OK && !zero {
			t.Errorf("%s: %v, %d", c.name, zero, e)
		}
		for _, b := range slices.Concat(rows()...) {
			if zero, e := c.function(b.apply(valid())); e != b.code || !zero {
				t.Errorf("%s, %s: %v, %d", c.name, b.name, zero, e)
			}
		}
	}
}

// P15.1, P1: of two errors, the one of the row above counts, wherever they are.
func TestOrderOfErrors(t *testing.T) {
	for i, row := range rows() {
		for _, first := range row {
			for _, later := range slices.Concat(rows()[i+1:]...) {
				// The one that counts comes last, so that the other one cannot undo it.
				if e := model.Check(first.apply(later.apply(valid()))); e != first.code {
					t.Errorf("%s, and %s: %d", first.name, later.name, e)
				}
			}
		}
	}
}

// P15.1, P1: of two boxes with errors, the first one counts.
func TestOrderOfErrorsOfBoxes(t *testing.T) {
	for _, first := range boxBreaks(0) {
		for _, second := range boxBreaks(3) {
			if e := model.Check(second.apply(first.apply(valid()))); e != first.code {
				t.Errorf("%s, and %s: %d", first.name, second.name, e)
			}
		}
	}
}

// P15.1: there are four states.
func TestErrorsOfJoin(t *testing.T) {
	for a, e := range stateErrors() {
		for b, f := range stateErrors() {
			want := max(e, f)
			if state, got := model.Join(a, b); got != want || got != api.OK && state != 0 {
				t.Errorf("Join of %d and %d: %d, %d", a, b, state, got)
			}
		}
	}
}

// P15.3: there is no first cell of a state that no cell has.
func TestNoFirst(t *testing.T) {
	for _, c := range []struct {
		list  []api.Evidence
		b     api.Box
		state int
	}{
		{nil, cube(-most, most), api.Sound},
		{nil, cube(0, 1), api.Flawed},
		{nil, cube(0, 1), api.Clash},
		{example(), cube(0, 10), api.Unseen},
		{example(), cube(0, 10), api.Flawed},
		{example(), cube(5, 10), api.Sound},
		{example(), cube(0, 5), api.Clash},
		{example(), cube(15, 20), api.Flawed},
	} {
		if cell, e := model.First(c.list, c.b, c.state); cell != (api.Vec{}) || e != api.ErrNone {
			t.Errorf("First of %v and %d: %v, %d", c.b, c.state, cell, e)
		}
	}
}

// P15.4: nothing is useless in a list without elements.
func TestUselessOfNone(t *testing.T) {
	for _, list := range [][]api.Evidence{nil, {}} {
		for _, index := range []int{0, 1, -1} {
			if useless, e := model.Useless(list, index); useless || e != api.ErrRange {
				t.Errorf("Useless of %d: %v, %d", index, useless, e)
			}
		}
	}
}
