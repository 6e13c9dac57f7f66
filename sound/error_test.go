package sound_test

import (
	"fmt"
	"math"
	"slices"
	"strings"
	"testing"

	"gangsaw/api"
	"gangsaw/sound"
)

// input is what the functions are called with.
type input struct {
	s    api.Survey
	list []api.Evidence
	b    api.Box
	axis int
}

// valid returns an input that leads to no error.
func valid() input {
	return input{rich(), []api.Evidence{isSound(cube(100)), isFlawed(boxOf(90, 90, 90, 95, 95, 95))}, boxOf(15, 10, 5, 25, 20, 25), api.AxisX}
}

// breaking is a change of an input, and the error that it leads to.
type breaking struct {
	name  string
	code  api.Errno
	apply func(in *input)
}

// surveyBreaks has each error of a survey.
func surveyBreaks() []breaking {
	return []breaking{
		{"too many beds", api.ErrTooMany, func(in *input) { in.s.Beds = make([]api.Bed, api.MaxBeds+1) }},
		{"too many joints", api.ErrTooMany, func(in *input) { in.s.Joints = make([]api.Joint, api.MaxJoints+1) }},
		{"too many flaws", api.ErrTooMany, func(in *input) { in.s.Flaws = make([]api.Flaw, api.MaxFlaws+1) }},
		{"great pit", api.ErrRange, func(in *input) { in.s.Pit.Max.X = most + 1 }},
		{"no pit", api.ErrInvalid, func(in *input) { in.s.Pit = api.Box{} }},
		{"no survey", api.ErrInvalid, func(in *input) { in.s = api.Survey{} }},
		{"name of a bed", api.ErrName, func(in *input) { in.s.Beds[0].Name = "B" }},
		{"axis of a joint", api.ErrInvalid, func(in *input) { in.s.Joints[0].Axis = api.AxisZ }},
		{"flaw over two corners", api.ErrInvalid, func(in *input) { in.s.Flaws[0].Prism.Base = in.s.Flaws[0].Prism.Base[:2] }},
		{"flaw that is turned over", api.ErrConflict, func(in *input) { slices.Reverse(in.s.Flaws[0].Prism.Base) }},
		{"bed above the pit", api.ErrOutside, func(in *input) { in.s.Beds[3].Z = 101 }},
		{"joint beside the pit", api.ErrOutside, func(in *input) { in.s.Joints[0].At = -1 }},
		{"two names", api.ErrDuplicate, func(in *input) { in.s.Beds[1].Name = "fa" }},
	}
}

// evidenceBreaks has each error of evidence, in the order of the table of chapter 15.
func evidenceBreaks() []breaking {
	return []breaking{
		{"too much evidence", api.ErrTooMany, func(in *input) { in.list = make([]api.Evidence, api.MaxEvidence+1) }},
		{"source", api.ErrName, func(in *input) { in.list[0].Source = "" }},
		{"long source", api.ErrName, func(in *input) { in.list[1].Source = strings.Repeat("s", api.MaxLabel+1) }},
		{"great box of evidence", api.ErrRange, func(in *input) { in.list[1].Box.Max.Z = most + 1 }},
		{"no box of evidence", api.ErrInvalid, func(in *input) { in.list[1].Box.Max.Z = in.list[1].Box.Min.Z }},
		{"state", api.ErrInvalid, func(in *input) { in.list[0].State = api.Clash }},
		{"unseen evidence", api.ErrInvalid, func(in *input) { in.list[1].State = api.Unseen }},
	}
}

func boxBreaks() []breaking {
	return []breaking{
		{"great box", api.ErrRange, func(in *input) { in.b.Max.X = most + 1 }},
		{"far box", api.ErrRange, func(in *input) { in.b.Min.Z = math.MinInt }},
		{"no box", api.ErrInvalid, func(in *input) { in.b = api.Box{} }},
		{"turned box", api.ErrInvalid, func(in *input) { in.b.Min, in.b.Max = in.b.Max, in.b.Min }},
		{"flat box beside the pit", api.ErrInvalid, func(in *input) { in.b = boxOf(-5, 0, 0, -5, 9, 9) }},
	}
}

func axisBreaks() []breaking {
	var list []breaking
	for _, axis := range []int{-1, 3, math.MinInt, math.MaxInt} {
		list = append(list, breaking{fmt.Sprint("axis ", axis), api.ErrInvalid, func(in *input) { in.axis = axis }})
	}
	return list
}

func outsideBreaks() []breaking {
	return []breaking{
		{"box beyond the pit", api.ErrOutside, func(in *input) { in.b.Max.Y = 101 }},
		{"box before the pit", api.ErrOutside, func(in *input) { in.b.Min.X = -1 }},
		{"box around the pit", api.ErrOutside, func(in *input) { in.b = boxOf(-1, -1, -1, 101, 101, 101) }},
	}
}

// noneBreaks lead to a box that is not sound in its first cells.
func noneBreaks() []breaking {
	return []breaking{
		{"no evidence", api.ErrNone, func(in *input) { in.list = nil }},
		{"first cells are in a flaw", api.ErrNone, func(in *input) { in.b = boxOf(50, 50, 15, 70, 60, 20) }},
		{"first cells are passed by a bed", api.ErrNone, func(in *input) { in.b = boxOf(50, 10, 29, 70, 20, 31) }},
		{"first cells are passed by a joint", api.ErrNone, func(in *input) { in.b = boxOf(50, 39, 10, 70, 41, 20) }},
		{"first cells are flawed", api.ErrNone, func(in *input) { in.list = append(in.list, isFlawed(boxOf(15, 19, 5, 16, 21, 6))) }},
	}
}

// call is a call of a function: whether its result is zero, its error, and the rows that apply to it.
type call struct {
	name     string
	rows     [][]breaking
	function func(in input) (bool, api.Errno)
}

func calls() []call {
	common := [][]breaking{surveyBreaks(), evidenceBreaks(), boxBreaks()}
	add := func(rows ...[]breaking) [][]breaking { return slices.Concat(common, rows) }
	return []call{
		{"Find", common, func(in input) (bool, api.Errno) {
			w, e := sound.Find(in.s, in.list, in.b)
			return w == sound.Witness{}, e
		}},
		{"Is", common, func(in input) (bool, api.Errno) {
			is, e := sound.Is(in.s, in.list, in.b)
			return !is, e
		}},
		{"Unseen", common, func(in input) (bool, api.Errno) {
			n, e := sound.Unseen(in.s, in.list, in.b)
			return n == 0, e
		}},
		{"Range", add(axisBreaks(), outsideBreaks(), noneBreaks()), func(in input) (bool, api.Errno) {
			r, e := sound.Range(in.s, in.list, in.b, in.axis)
			return r == api.Interval{}, e
		}},
		{"Pieces", add(outsideBreaks()), func(in input) (bool, api.Errno) {
			pieces, e := sound.Pieces(in.s, in.list, in.b)
			return len(pieces) == 0, e
		}},
	}
}

// P16.1 to P16.4, P1: each row of the table for each function that it names, and for no other one.
func TestErrors(t *testing.T) {
	all := slices.Concat(surveyBreaks(), evidenceBreaks(), boxBreaks(), axisBreaks(), outsideBreaks(), noneBreaks())
	for _, c := range calls() {
		if _, e := c.function(valid()); e != api.OK {
			t.Errorf("%s: %d", c.name, e)
		}
		for _, b := range all {
			applies := func(row []breaking) bool {
				return slices.ContainsFunc(row, func(other breaking) bool { return other.name == b.name })
			}
			want := api.OK
			if slices.ContainsFunc(c.rows, applies) {
				want = b.code
			}
			in := valid()
			b.apply(&in)
			if zero, e := c.function(in); e != want || e != api.OK && !zero {
				t.Errorf("%s, %s: %v, %d", c.name, b.name, zero, e)
			}
		}
	}
}

// P1: of two errors, the one of the row above counts.
func TestOrderOfErrors(t *testing.T) {
	for _, c := range calls() {
		for i, row := range c.rows {
			for _, first := range row {
				for _, later := range slices.Concat(c.rows[i+1:]...) {
					in := valid()
					// The one that counts comes last, so that the other one cannot undo it.
					later.apply(&in)
					if len(in.list) == 0 {
						in.list = valid().list // There must be something that can be broken.
					}
					first.apply(&in)
					if zero, e := c.function(in); e != first.code || !zero {
						t.Errorf("%s, %s and %s: %v, %d", c.name, first.name, later.name, zero, e)
					}
				}
			}
		}
	}
}

// P16.2: nothing is a witness if the survey, the evidence or the box is not valid.
func TestVerifyOfErrors(t *testing.T) {
	for _, c := range slices.Concat(surveyBreaks(), evidenceBreaks(), boxBreaks()) {
		in := valid()
		c.apply(&in)
		for _, w := range []sound.Witness{
			{}, cell(15, 10, 5, api.Unseen), cell(0, 0, 0, api.Unseen), named(sound.Flaw, "fa"), named(sound.Bed, "bz"), named(sound.Joint, "j1"), named(sound.Beyond, ""),
		} {
			if sound.Verify(in.s, in.list, in.b, w) {
				t.Errorf("%s: Verify accepts %v", c.name, w)
			}
		}
	}
}

// P16.1, P16.4: a box outside of the pit is an answer of Find and Is, and no error of Unseen.
func TestBoxesBeyond(t *testing.T) {
	for _, c := range outsideBreaks() {
		in := valid()
		c.apply(&in)
		if w, e := sound.Find(in.s, in.list, in.b); w != named(sound.Beyond, "") || e != api.OK {
			t.Errorf("%s: Find: %v, %d", c.name, w, e)
		}
		if is, e := sound.Is(in.s, in.list, in.b); is || e != api.OK {
			t.Errorf("%s: Is: %v, %d", c.name, is, e)
		}
		if n, e := sound.Unseen(in.s, in.list, in.b); n == 0 || e != api.OK {
			t.Errorf("%s: Unseen: %d, %d", c.name, n, e)
		}
	}
}
