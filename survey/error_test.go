package survey_test

import (
	"fmt"
	"math"
	"slices"
	"strings"
	"testing"

	"gangsaw/api"
	"gangsaw/survey"
)

// flawWith returns a flaw with these corners from z 0 to 10.
func flawWith(name string, corners ...api.Point) api.Flaw {
	return api.Flaw{Name: name, Prism: api.Prism{Base: corners, Hi: 10}}
}

// ring returns n corners of a polygon that is not always convex.
func ring(n int) []api.Point {
	var list []api.Point
	for i := range n {
		list = append(list, api.Point{X: 10 + i, Y: i * i % 50})
	}
	return list
}

// breaking is a change of the rich survey, and the error of Check that it leads to.
type breaking struct {
	name  string
	code  api.Errno
	apply func(s *api.Survey)
}

func limitBreaks() []breaking {
	return []breaking{
		{"too many beds", api.ErrTooMany, func(s *api.Survey) {
			for i := range api.MaxBeds + 1 - len(s.Beds) {
				s.Beds = append(s.Beds, api.Bed{Name: fmt.Sprintf("zb%03d", i), Z: i})
			}
		}},
		{"too many joints", api.ErrTooMany, func(s *api.Survey) {
			for i := range api.MaxJoints + 1 - len(s.Joints) {
				s.Joints = append(s.Joints, api.Joint{Name: fmt.Sprintf("zj%03d", i), Hi: 1})
			}
		}},
		{"too many flaws", api.ErrTooMany, func(s *api.Survey) {
			for i := range api.MaxFlaws + 1 - len(s.Flaws) {
				s.Flaws = append(s.Flaws, square(fmt.Sprintf("zz%03d", i), 0, 1, 0, 1))
			}
		}},
	}
}

func pitBreaks() []breaking {
	list := []breaking{}
	for i, at := range []func(s *api.Survey) *int{
		func(s *api.Survey) *int { return &s.Pit.Min.X },
		func(s *api.Survey) *int { return &s.Pit.Min.Y },
		func(s *api.Survey) *int { return &s.Pit.Min.Z },
		func(s *api.Survey) *int { return &s.Pit.Max.X },
		func(s *api.Survey) *int { return &s.Pit.Max.Y },
		func(s *api.Survey) *int { return &s.Pit.Max.Z },
	} {
		for _, n := range []int{-api.MaxCoord - 1, api.MaxCoord + 1, math.MinInt, math.MaxInt} {
			list = append(list, breaking{fmt.Sprintf("coordinate %d is %d", i, n), api.ErrRange, func(s *api.Survey) { *at(s) = n }})
		}
	}
	return append(list,
		breaking{"no x", api.ErrInvalid, func(s *api.Survey) { s.Pit.Max.X = s.Pit.Min.X }},
		breaking{"no y", api.ErrInvalid, func(s *api.Survey) { s.Pit.Max.Y = s.Pit.Min.Y }},
		breaking{"no z", api.ErrInvalid, func(s *api.Survey) { s.Pit.Max.Z = s.Pit.Min.Z }},
		breaking{"turned pit", api.ErrInvalid, func(s *api.Survey) { s.Pit.Min, s.Pit.Max = s.Pit.Max, s.Pit.Min }},
	)
}

func partBreaks() []breaking {
	list := []breaking{}
	for _, name := range []string{"", "Bed", "1b", "b-c", "_b", strings.Repeat("b", api.MaxName+1)} {
		list = append(list,
			breaking{"name of a bed: " + name, api.ErrName, func(s *api.Survey) { s.Beds[1].Name = name }},
			breaking{"name of a joint: " + name, api.ErrName, func(s *api.Survey) { s.Joints[1].Name = name }},
			breaking{"name of a flaw: " + name, api.ErrName, func(s *api.Survey) { s.Flaws[1].Name = name }})
	}
	for _, axis := range []int{api.AxisZ, -1, 3, math.MinInt, math.MaxInt} {
		list = append(list, breaking{fmt.Sprint("axis ", axis), api.ErrInvalid, func(s *api.Survey) { s.Joints[4].Axis = axis }})
	}
	return append(list,
		breaking{"joint without z", api.ErrInvalid, func(s *api.Survey) { s.Joints[0].Hi = s.Joints[0].Lo }},
		breaking{"turned joint", api.ErrInvalid, func(s *api.Survey) { s.Joints[0].Lo, s.Joints[0].Hi = 60, 0 }},
		breaking{"flaw without z", api.ErrInvalid, func(s *api.Survey) { s.Flaws[2].Prism.Hi = s.Flaws[2].Prism.Lo }},
		breaking{"turned flaw", api.ErrInvalid, func(s *api.Survey) { s.Flaws[2].Prism.Lo, s.Flaws[2].Prism.Hi = 16, 0 }},
	)
}

func baseBreaks() []breaking {
	add := func(name string, code api.Errno, corners ...api.Point) breaking {
		return breaking{name, code, func(s *api.Survey) { s.Flaws[1].Prism.Base = corners }}
	}
	return []breaking{
		add("too many corners", api.ErrTooMany, ring(api.MaxCorners+1)...),
		add("no corner", api.ErrInvalid),
		add("two corners", api.ErrInvalid, ring(2)...),
		add("far corner", api.ErrRange, api.Point{}, api.Point{X: api.MaxCoord + 1}, api.Point{Y: 5}),
		add("equal corners", api.ErrDuplicate, api.Point{}, api.Point{X: 5}, api.Point{X: 5}, api.Point{Y: 5}),
		add("clockwise", api.ErrConflict, api.Point{}, api.Point{Y: 5}, api.Point{X: 5}),
		add("dented", api.ErrConflict, api.Point{}, api.Point{X: 9}, api.Point{X: 1, Y: 1}, api.Point{Y: 9}),
		add("straight corner", api.ErrConflict, api.Point{}, api.Point{X: 5}, api.Point{X: 9}, api.Point{Y: 5}),
		add("bow tie", api.ErrConflict, api.Point{}, api.Point{X: 5, Y: 5}, api.Point{X: 5}, api.Point{Y: 5}),
	}
}

func placeBreaks() []breaking {
	out := func(name string, apply func(s *api.Survey)) breaking { return breaking{name, api.ErrOutside, apply} }
	return []breaking{
		out("bed below", func(s *api.Survey) { s.Beds[0].Z = -1 }),
		out("bed above", func(s *api.Survey) { s.Beds[2].Z = 101 }),
		out("bed far above", func(s *api.Survey) { s.Beds[2].Z = math.MaxInt }),
		out("joint to the west", func(s *api.Survey) { s.Joints[0].At = -1 }),
		out("joint to the east", func(s *api.Survey) { s.Joints[4].At = 101 }),
		out("joint to the south", func(s *api.Survey) { s.Joints[2].At = -1 }),
		out("joint to the north", func(s *api.Survey) { s.Joints[2].At = 101 }),
		out("joint from below", func(s *api.Survey) { s.Joints[0].Lo = -1 }),
		out("joint to above", func(s *api.Survey) { s.Joints[4].Hi = 101 }),
		out("endless joint", func(s *api.Survey) { s.Joints[4].Lo, s.Joints[4].Hi = math.MinInt, math.MaxInt }),
		out("flaw to the west", func(s *api.Survey) { s.Flaws[0].Prism.Base[0].X = -1 }),
		out("flaw to the south", func(s *api.Survey) { s.Flaws[0].Prism.Base[0].Y = -1 }),
		out("flaw to the east", func(s *api.Survey) { s.Flaws[1].Prism.Base[1].X = 101 }),
		out("flaw to the north", func(s *api.Survey) { s.Flaws[1].Prism.Base[2].Y = 101 }),
		out("flaw from below", func(s *api.Survey) { s.Flaws[1].Prism.Lo = -1 }),
		out("flaw to above", func(s *api.Survey) { s.Flaws[1].Prism.Hi = 101 }),
	}
}

func orderBreaks() []breaking {
	twice := func(name string, apply func(s *api.Survey)) breaking { return breaking{name, api.ErrDuplicate, apply} }
	return []breaking{
		twice("beds at one z", func(s *api.Survey) { s.Beds[1].Z = 20 }),
		twice("beds decrease", func(s *api.Survey) { s.Beds[0].Z = 51 }),
		twice("joints decrease", func(s *api.Survey) { s.Joints[1].Name = "k0" }),
		twice("flaws decrease", func(s *api.Survey) { s.Flaws[0].Name = "h" }),
		twice("two beds", func(s *api.Survey) { s.Beds[2].Name = "upper_c" }),
		twice("two joints", func(s *api.Survey) { s.Joints[4].Name = "k4" }),
		twice("two flaws", func(s *api.Survey) { s.Flaws[1].Name = "f" }),
		twice("a bed and a joint", func(s *api.Survey) { s.Beds[1].Name = "k3" }),
		twice("a bed and a flaw", func(s *api.Survey) { s.Beds[1].Name = "g" }),
		twice("a joint and a flaw", func(s *api.Survey) { s.Joints[0].Name = "f" }),
	}
}

func noBreaks() []breaking {
	fine := func(name string, apply func(s *api.Survey)) breaking { return breaking{name, api.OK, apply} }
	return []breaking{
		fine("nothing", func(s *api.Survey) {}),
		fine("nothing but the pit", func(s *api.Survey) { *s = api.Survey{Pit: cube(1)} }),
		fine("bed at the ground", func(s *api.Survey) { s.Beds[0].Z = 0 }),
		fine("joint at the west", func(s *api.Survey) { s.Joints[0].At = 0 }),
		fine("joint at the south", func(s *api.Survey) { s.Joints[2].At = 0 }),
		fine("joint at the north", func(s *api.Survey) { s.Joints[2].At, s.Joints[2].Lo, s.Joints[2].Hi = 100, 0, 100 }),
		fine("flaw that fills the pit", func(s *api.Survey) { s.Flaws[0] = square("f", 0, 100, 0, 100) }),
		fine("long name", func(s *api.Survey) { s.Beds[0].Name = strings.Repeat("b", api.MaxName) }),
		fine("great pit", func(s *api.Survey) {
			s.Pit = boxOf(-api.MaxCoord, -api.MaxCoord, -api.MaxCoord, api.MaxCoord, api.MaxCoord, api.MaxCoord)
		}),
	}
}

// P13.1: each row of the table.
func TestCheck(t *testing.T) {
	for _, c := range slices.Concat(noBreaks(), limitBreaks(), pitBreaks(), partBreaks(), baseBreaks(), placeBreaks(), orderBreaks()) {
		s := rich()
		c.apply(&s)
		if e := survey.Check(s); e != c.code {
			t.Errorf("%s: %d", c.name, e)
		}
	}
}

// P13.1: each axis of the pit has ends of its own.
func TestCheckInLongPits(t *testing.T) {
	for _, c := range []struct {
		axis, at, hi int
		want         api.Errno
	}{
		{api.AxisX, 10, 30, api.OK},
		{api.AxisX, 11, 30, api.ErrOutside},
		{api.AxisX, 20, 30, api.ErrOutside},
		{api.AxisY, 20, 30, api.OK},
		{api.AxisY, 21, 30, api.ErrOutside},
		{api.AxisY, 20, 31, api.ErrOutside},
	} {
		s := api.Survey{Pit: boxOf(0, 0, 0, 10, 20, 30), Joints: []api.Joint{{Name: "j", Axis: c.axis, At: c.at, Hi: c.hi}}}
		if e := survey.Check(s); e != c.want {
			t.Errorf("Check with a joint of the axis %d at %d up to %d: %d", c.axis, c.at, c.hi, e)
		}
	}
}

// P13.1: as many parts as there may be.
func TestCheckOfManyParts(t *testing.T) {
	s := api.Survey{Pit: cube(100)}
	for i := range api.MaxBeds {
		s.Beds = append(s.Beds, api.Bed{Name: fmt.Sprintf("b%03d", i), Z: i})
	}
	for i := range api.MaxJoints {
		s.Joints = append(s.Joints, api.Joint{Name: fmt.Sprintf("j%03d", i), Axis: i % 2, At: 50, Lo: i / 2, Hi: 100})
	}
	for i := range api.MaxFlaws {
		s.Flaws = append(s.Flaws, square(fmt.Sprintf("f%03d", i), i, i+1, i, i+1))
	}
	if e := survey.Check(s); e != api.OK {
		t.Errorf("Check: %d", e)
	}
	names, e := survey.Through(s, s.Pit)
	if len(names) != api.MaxBeds-1+api.MaxJoints || !slices.IsSorted(names) || e != api.OK {
		t.Errorf("Through: %d names, %d", len(names), e)
	}
	if flaws, e := survey.Flaws(s, s.Pit); len(flaws) != api.MaxFlaws || !slices.IsSorted(flaws) || e != api.OK {
		t.Errorf("Flaws: %d names, %d", len(flaws), e)
	}
}

// P1: of two errors, the one of the row above counts, wherever they are.
func TestOrderOfErrorsOfCheck(t *testing.T) {
	// The breaks of a list come from one row, or from rows in this order.
	rows := [][]breaking{limitBreaks(), pitBreaks()[:24], pitBreaks()[24:], partBreaks()[:18], partBreaks()[18:], baseBreaks()[:5], baseBreaks()[5:], placeBreaks(), orderBreaks()}
	for i, row := range rows {
		for _, first := range row {
			for _, later := range slices.Concat(rows[i+1:]...) {
				s := rich()
				// The one that counts comes last, so that the other one cannot undo it.
				later.apply(&s)
				first.apply(&s)
				if e := survey.Check(s); e != first.code {
					t.Errorf("%s, and %s: %d", first.name, later.name, e)
				}
			}
		}
	}
}

// P1: of the errors of bases, the one of the first flaw counts, but whether they are convex is asked last.
func TestOrderOfErrorsOfBases(t *testing.T) {
	short, far, dented := ring(2), []api.Point{{}, {X: api.MaxCoord + 1}, {Y: 5}}, []api.Point{{}, {Y: 5}, {X: 5}}
	for _, c := range []struct {
		a, b []api.Point
		want api.Errno
	}{
		{short, far, api.ErrInvalid},
		{far, short, api.ErrRange},
		{dented, far, api.ErrRange},
		{far, dented, api.ErrRange},
		{dented, dented, api.ErrConflict},
	} {
		s := api.Survey{Pit: cube(100), Flaws: []api.Flaw{flawWith("a", c.a...), flawWith("b", c.b...)}}
		if e := survey.Check(s); e != c.want {
			t.Errorf("Check of flaws over %v and %v: %d", c.a, c.b, e)
		}
	}
}

// call is a call of a function with a survey, a box and a side: whether its result is zero, and its error.
type call struct {
	name     string
	hasSide  bool
	hasBox   bool
	function func(s api.Survey, b api.Box, side int) (bool, api.Errno)
}

func calls() []call {
	return []call{
		{"Through", false, true, func(s api.Survey, b api.Box, _ int) (bool, api.Errno) {
			list, e := survey.Through(s, b)
			return len(list) == 0, e
		}},
		{"Flaws", false, true, func(s api.Survey, b api.Box, _ int) (bool, api.Errno) {
			list, e := survey.Flaws(s, b)
			return len(list) == 0, e
		}},
		{"Open", true, true, func(s api.Survey, b api.Box, side int) (bool, api.Errno) {
			open, e := survey.Open(s, b, side)
			return !open, e
		}},
		{"Jointed", true, true, func(s api.Survey, b api.Box, side int) (bool, api.Errno) {
			list, e := survey.Jointed(s, b, side)
			return len(list) == 0, e
		}},
		{"Line", false, false, func(s api.Survey, _ api.Box, _ int) (bool, api.Errno) {
			l, e := survey.Line(s)
			return l.Tokens == nil && l.Kids == nil && !l.Heading && l.At == 0, e
		}},
	}
}

// P1: the errors of the functions with a survey, a side and a box, in this order, and no result beside them.
func TestErrorsOfBoxesAndSides(t *testing.T) {
	sides := map[int]api.Errno{api.PlusX: api.OK, api.MinusY: api.OK, -1: api.ErrRange, api.PlusZ: api.ErrRange, math.MinInt: api.ErrRange, math.MaxInt: api.ErrRange}
	boxes := map[api.Box]api.Errno{
		cube(100):                                   api.OK,
		cube(1):                                     api.OK,
		boxOf(99, 99, 99, 100, 100, 100):            api.OK,
		boxOf(5, 0, 0, 5, 9, 9):                     api.ErrInvalid,
		boxOf(0, 5, 0, 9, 5, 9):                     api.ErrInvalid,
		boxOf(0, 0, 5, 9, 9, 5):                     api.ErrInvalid,
		boxOf(0, 0, 9, 9, 9, 5):                     api.ErrInvalid,
		boxOf(500, 0, 0, 400, 9, 9):                 api.ErrInvalid,
		boxOf(math.MaxInt, 0, 0, math.MinInt, 9, 9): api.ErrInvalid,
		boxOf(-1, 0, 0, 9, 9, 9):                    api.ErrOutside,
		boxOf(0, -1, 0, 9, 9, 9):                    api.ErrOutside,
		boxOf(0, 0, -1, 9, 9, 9):                    api.ErrOutside,
		boxOf(0, 0, 0, 101, 9, 9):                   api.ErrOutside,
		boxOf(0, 0, 0, 9, 101, 9):                   api.ErrOutside,
		boxOf(0, 0, 0, 9, 9, 101):                   api.ErrOutside,
		boxOf(200, 200, 200, 300, 300, 300):         api.ErrOutside,
		boxOf(math.MinInt, math.MinInt, math.MinInt, math.MaxInt, math.MaxInt, math.MaxInt): api.ErrOutside,
	}
	broken := api.Survey{Pit: cube(100), Beds: []api.Bed{{Name: "B"}}}
	for _, c := range calls() {
		for side, sideError := range sides {
			for b, boxError := range boxes {
				if zero, e := c.function(broken, b, side); e != api.ErrName || !zero {
					t.Errorf("%s of a survey that is not valid, %v and %d: %v, %d", c.name, b, side, zero, e)
				}
				want := api.OK
				switch {
				case c.hasSide && sideError != api.OK:
					want = sideError
				case c.hasBox:
					want = boxError
				}
				if zero, e := c.function(rich(), b, side); e != want || e != api.OK && !zero {
					t.Errorf("%s of %v and %d: %v, %d", c.name, b, side, zero, e)
				}
			}
		}
	}
}

// P13.1: each error of the table is an error of the functions with a survey.
func TestErrorsOfSurveys(t *testing.T) {
	for _, b := range slices.Concat(limitBreaks(), pitBreaks(), partBreaks(), baseBreaks(), placeBreaks(), orderBreaks()) {
		s := rich()
		b.apply(&s)
		for _, c := range calls() {
			if zero, e := c.function(s, cube(1), 0); e != b.code || !zero {
				t.Errorf("%s, %s: %v, %d", c.name, b.name, zero, e)
			}
		}
	}
}
