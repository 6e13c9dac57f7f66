package survey_test

import (
	"slices"
	"strings"
	"testing"

	"gangsaw/api"
	"gangsaw/survey"
)

// cube returns the box from 0 to n in each coordinate.
func cube(n int) api.Box { return api.Box{Max: api.Vec{X: n, Y: n, Z: n}} }

// boxOf returns the box with these ends.
func boxOf(x, y, z, toX, toY, toZ int) api.Box {
	return api.Box{Min: api.Vec{X: x, Y: y, Z: z}, Max: api.Vec{X: toX, Y: toY, Z: toZ}}
}

// square returns a flaw over the square from one number to another one in x and y.
func square(name string, from, to, lo, hi int) api.Flaw {
	base := api.Polygon{{X: from, Y: from}, {X: to, Y: from}, {X: to, Y: to}, {X: from, Y: to}}
	return api.Flaw{Name: name, Prism: api.Prism{Base: base, Lo: lo, Hi: hi}}
}

// example returns the survey of the chapter's examples.
func example() api.Survey {
	return api.Survey{
		Pit:    cube(100),
		Beds:   []api.Bed{{Name: "b", Z: 50}},
		Joints: []api.Joint{{Name: "j", Axis: api.AxisX, At: 30, Lo: 0, Hi: 60}},
	}
}

// rich returns a survey with more of everything.
func rich() api.Survey {
	triangle := api.Polygon{{X: 60, Y: 60}, {X: 80, Y: 60}, {X: 60, Y: 80}}
	return api.Survey{
		Pit:  cube(100),
		Open: [4]bool{api.MinusX: true, api.PlusY: true},
		Beds: []api.Bed{{Name: "upper_c", Z: 20}, {Name: "m", Z: 50}, {Name: "a", Z: 100}},
		Joints: []api.Joint{
			{Name: "k1", Axis: api.AxisX, At: 30, Lo: 0, Hi: 60},
			{Name: "k2", Axis: api.AxisX, At: 30, Lo: 50, Hi: 70},
			{Name: "k3", Axis: api.AxisY, At: 30, Lo: 10, Hi: 20},
			{Name: "k4", Axis: api.AxisX, At: 30, Lo: 80, Hi: 100},
			{Name: "k5", Axis: api.AxisX, At: 100, Lo: 0, Hi: 100},
		},
		Flaws: []api.Flaw{
			square("f", 10, 20, 15, 40),
			{Name: "g", Prism: api.Prism{Base: triangle, Lo: 0, Hi: 100}},
			square("z", 15, 25, 0, 16),
		},
	}
}

// P13.2: the first example of the chapter, and boxes that end at beds and joints or do not.
func TestThrough(t *testing.T) {
	for _, c := range []struct {
		s    api.Survey
		b    api.Box
		want string
	}{
		{example(), boxOf(0, 0, 40, 50, 50, 60), "b j"},
		{example(), boxOf(30, 0, 50, 50, 50, 60), ""},
		{example(), boxOf(0, 0, 40, 30, 50, 50), ""},
		{example(), boxOf(0, 0, 49, 1, 1, 51), "b"},
		{example(), boxOf(29, 0, 0, 31, 1, 1), "j"},
		{example(), boxOf(29, 0, 59, 31, 1, 60), "j"},
		{example(), boxOf(29, 0, 60, 31, 1, 61), ""},
		{example(), boxOf(0, 0, 0, 100, 30, 50), "j"},
		{example(), cube(100), "b j"},
		{rich(), cube(100), "k1 k2 k3 k4 m upper_c"},
		{rich(), boxOf(0, 0, 20, 40, 40, 55), "k1 k2 m"},
		{rich(), boxOf(0, 29, 19, 30, 31, 50), "k3 upper_c"},
		{rich(), boxOf(0, 30, 0, 30, 100, 20), ""},
		{rich(), boxOf(0, 0, 0, 100, 100, 10), "k1"},
		{rich(), boxOf(0, 0, 70, 100, 100, 80), ""},
		{api.Survey{Pit: cube(5)}, cube(5), ""},
	} {
		got, e := survey.Through(c.s, c.b)
		if e != api.OK || !slices.Equal(got, strings.Fields(c.want)) {
			t.Errorf("Through of %v: %q, %d", c.b, got, e)
		}
	}
}

// P13.2: touching a flaw is not overlapping it.
func TestFlaws(t *testing.T) {
	for _, c := range []struct {
		b    api.Box
		want string
	}{
		{cube(100), "f g z"},
		{boxOf(0, 0, 0, 10, 100, 100), ""},
		{boxOf(0, 0, 0, 11, 11, 16), "f"},
		{boxOf(0, 0, 0, 16, 16, 15), "z"},
		{boxOf(15, 15, 15, 16, 16, 16), "f z"},
		{boxOf(15, 15, 16, 16, 16, 17), "f"},
		{boxOf(0, 0, 40, 50, 50, 100), ""},
		{boxOf(70, 70, 0, 100, 100, 100), ""},
		{boxOf(70, 69, 0, 100, 100, 100), "g"},
		{boxOf(59, 59, 99, 61, 61, 100), "g"},
	} {
		got, e := survey.Flaws(rich(), c.b)
		if e != api.OK || !slices.Equal(got, strings.Fields(c.want)) {
			t.Errorf("Flaws of %v: %q, %d", c.b, got, e)
		}
	}
}

// P13.2: beds have their z exactly, in any survey.
func TestBedded(t *testing.T) {
	odd := api.Survey{Beds: []api.Bed{{Z: 7}, {Name: "?", Z: -5}, {Z: 7}, {Z: 2 * api.MaxCoord}}}
	for _, c := range []struct {
		s    api.Survey
		z    int
		want bool
	}{
		{rich(), 20, true}, {rich(), 50, true}, {rich(), 100, true},
		{rich(), 0, false}, {rich(), 19, false}, {rich(), 30, false},
		{odd, 7, true}, {odd, -5, true}, {odd, 2 * api.MaxCoord, true}, {odd, 5, false},
		{api.Survey{}, 0, false},
	} {
		if got := survey.Bedded(c.s, c.z); got != c.want {
			t.Errorf("Bedded at %d: %v", c.z, got)
		}
	}
}

// P13.3: a side has to lie in the plane of the pit's side, and that has to be open.
func TestOpen(t *testing.T) {
	s := rich()
	s.Pit = boxOf(-10, -10, -10, 100, 110, 100)
	for _, c := range []struct {
		b    api.Box
		want [4]bool
	}{
		{s.Pit, [4]bool{false, true, true, false}},
		{boxOf(-10, 0, 0, 5, 110, 5), [4]bool{false, true, true, false}},
		{boxOf(-9, 0, 0, 5, 109, 5), [4]bool{}},
		{boxOf(-10, -10, 0, 100, 100, 5), [4]bool{false, true, false, false}},
		{boxOf(0, -10, 0, 100, 110, 5), [4]bool{false, false, true, false}},
	} {
		for side, want := range c.want {
			if got, e := survey.Open(s, c.b, side); got != want || e != api.OK {
				t.Errorf("Open of the side %d of %v: %v, %d", side, c.b, got, e)
			}
		}
	}
	for side := range 4 {
		s.Open = [4]bool{}
		s.Open[side] = true
		for other := range 4 {
			if got, e := survey.Open(s, s.Pit, other); got != (side == other) || e != api.OK {
				t.Errorf("Open of the side %d, if %d is open: %v, %d", other, side, got, e)
			}
		}
	}
}

// P13.3: the second example of the chapter, and joints that overlap, touch, leave gaps or lie elsewhere.
func TestJointed(t *testing.T) {
	touching := rich()
	touching.Joints[1] = api.Joint{Name: "k2", Axis: api.AxisX, At: 30, Lo: 60, Hi: 70}
	for _, c := range []struct {
		s    api.Survey
		b    api.Box
		side int
		want []api.Interval
	}{
		{example(), boxOf(30, 0, 40, 50, 50, 70), api.MinusX, []api.Interval{{Lo: 40, Hi: 59}}},
		{example(), boxOf(0, 0, 40, 30, 50, 70), api.PlusX, []api.Interval{{Lo: 40, Hi: 59}}},
		{example(), boxOf(0, 30, 40, 30, 50, 70), api.MinusY, nil},
		{example(), boxOf(30, 0, 60, 50, 50, 70), api.MinusX, nil},
		{example(), boxOf(30, 0, 59, 50, 50, 60), api.MinusX, []api.Interval{{Lo: 59, Hi: 59}}},
		{example(), boxOf(29, 0, 0, 31, 50, 70), api.MinusX, nil},
		{example(), boxOf(29, 0, 0, 31, 50, 70), api.PlusX, nil},
		{rich(), boxOf(30, 0, 0, 50, 50, 100), api.MinusX, []api.Interval{{Lo: 0, Hi: 69}, {Lo: 80, Hi: 99}}},
		{rich(), boxOf(30, 0, 65, 50, 50, 85), api.MinusX, []api.Interval{{Lo: 65, Hi: 69}, {Lo: 80, Hi: 84}}},
		{touching, boxOf(30, 0, 0, 50, 50, 75), api.MinusX, []api.Interval{{Lo: 0, Hi: 69}}},
		{rich(), boxOf(0, 30, 0, 50, 50, 100), api.MinusY, []api.Interval{{Lo: 10, Hi: 19}}},
		{rich(), boxOf(0, 0, 12, 50, 30, 100), api.PlusY, []api.Interval{{Lo: 12, Hi: 19}}},
		{rich(), cube(100), api.PlusX, []api.Interval{{Lo: 0, Hi: 99}}},
		{rich(), cube(100), api.MinusX, nil},
	} {
		got, e := survey.Jointed(c.s, c.b, c.side)
		if e != api.OK || !slices.Equal(got, c.want) {
			t.Errorf("Jointed of the side %d of %v: %v, %d", c.side, c.b, got, e)
		}
	}
}

// P13.1: every part counts, and empty lists are equal.
func TestEqual(t *testing.T) {
	changes := map[string]func(s *api.Survey){
		"pit":      func(s *api.Survey) { s.Pit.Max.Z++ },
		"open":     func(s *api.Survey) { s.Open[0] = true },
		"bed z":    func(s *api.Survey) { s.Beds[2].Z-- },
		"bed name": func(s *api.Survey) { s.Beds[0].Name = "c" },
		"beds":     func(s *api.Survey) { s.Beds = s.Beds[:2] },
		"axis":     func(s *api.Survey) { s.Joints[3].Axis = api.AxisY },
		"at":       func(s *api.Survey) { s.Joints[3].At++ },
		"lo":       func(s *api.Survey) { s.Joints[3].Lo++ },
		"hi":       func(s *api.Survey) { s.Joints[3].Hi-- },
		"joint":    func(s *api.Survey) { s.Joints[3].Name = "k44" },
		"joints":   func(s *api.Survey) { s.Joints = append(s.Joints, api.Joint{}) },
		"flaw":     func(s *api.Survey) { s.Flaws[1].Name = "gg" },
		"flaw lo":  func(s *api.Survey) { s.Flaws[1].Prism.Lo++ },
		"flaw hi":  func(s *api.Survey) { s.Flaws[1].Prism.Hi-- },
		"corner":   func(s *api.Survey) { s.Flaws[1].Prism.Base[2].Y++ },
		"corners":  func(s *api.Survey) { s.Flaws[1].Prism.Base = append(s.Flaws[1].Prism.Base, api.Point{X: 60, Y: 70}) },
		"turned":   func(s *api.Survey) { slices.Reverse(s.Flaws[1].Prism.Base) },
		"flaws":    func(s *api.Survey) { s.Flaws = s.Flaws[1:] },
		"order":    func(s *api.Survey) { slices.Reverse(s.Beds) },
	}
	for name, change := range changes {
		s := rich()
		if !survey.Equal(s, rich()) {
			t.Errorf("equal surveys are not equal")
		}
		change(&s)
		if survey.Equal(s, rich()) || survey.Equal(rich(), s) {
			t.Errorf("surveys with another %s are equal", name)
		}
	}
	empty := api.Survey{Beds: []api.Bed{}, Joints: []api.Joint{}, Flaws: []api.Flaw{}}
	if !survey.Equal(api.Survey{}, empty) || !survey.Equal(empty, api.Survey{}) {
		t.Error("empty lists are not equal")
	}
	noBase := api.Survey{Flaws: []api.Flaw{{Name: "f"}}}
	emptyBase := api.Survey{Flaws: []api.Flaw{{Name: "f", Prism: api.Prism{Base: api.Polygon{}}}}}
	if !survey.Equal(noBase, emptyBase) || survey.Equal(noBase, api.Survey{}) {
		t.Error("bases without corners are not equal, or a flaw does not count")
	}
}

// P1: surveys are neither modified nor kept, and results share no memory.
func TestSurveysAreLeftAlone(t *testing.T) {
	s := rich()
	l, _ := survey.Line(s)
	names, _ := survey.Through(s, s.Pit)
	flaws, _ := survey.Flaws(s, s.Pit)
	names[0], flaws[0] = "changed", "changed"
	loaded, fault := survey.Load(l)
	if fault.Code != api.OK {
		t.Fatalf("Load: %v", fault)
	}
	for i := range l.Kids {
		clear(l.Kids[i].Tokens)
		for _, kid := range l.Kids[i].Kids {
			clear(kid.Tokens)
		}
	}
	if !survey.Equal(s, rich()) || !survey.Equal(loaded, rich()) {
		t.Error("a survey is modified, or shares memory with its line")
	}
	shuffled, _ := survey.Line(rich())
	slices.Reverse(shuffled.Kids)
	if _, fault := survey.Load(shuffled); fault.Code != api.OK {
		t.Errorf("Load: %v", fault)
	}
	if shuffled.Kids[0].Tokens[1].Text != "z" {
		t.Error("the line is modified")
	}
}
