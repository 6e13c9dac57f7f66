package survey_test

import (
	"fmt"
	"math/rand"
	"slices"
	"testing"

	"gangsaw/api"
	"gangsaw/parser"
	"gangsaw/polygon"
	"gangsaw/survey"
)

// pitSize is the length of the sides of the pits of random surveys.
const pitSize = 8

// random returns a survey of a small pit.
func random(r *rand.Rand) api.Survey {
	s := api.Survey{Pit: cube(pitSize)}
	for side := range s.Open {
		s.Open[side] = r.Intn(2) == 0
	}
	names := r.Perm(20)
	name := func() string {
		n := names[0]
		names = names[1:]
		return fmt.Sprintf("n%d", n)
	}
	for z := range pitSize + 1 {
		if r.Intn(4) == 0 {
			s.Beds = append(s.Beds, api.Bed{Name: name(), Z: z})
		}
	}
	for range r.Intn(5) {
		lo := r.Intn(pitSize)
		s.Joints = append(s.Joints, api.Joint{Name: name(), Axis: r.Intn(2), At: r.Intn(pitSize + 1), Lo: lo, Hi: lo + 1 + r.Intn(pitSize-lo)})
	}
	for range r.Intn(4) {
		var points []api.Point
		for range 3 + r.Intn(4) {
			points = append(points, api.Point{X: r.Intn(pitSize + 1), Y: r.Intn(pitSize + 1)})
		}
		base, e := polygon.Hull(points)
		if e != api.OK {
			continue
		}
		lo := r.Intn(pitSize)
		s.Flaws = append(s.Flaws, api.Flaw{Name: name(), Prism: api.Prism{Base: base, Lo: lo, Hi: lo + 1 + r.Intn(pitSize-lo)}})
	}
	slices.SortFunc(s.Joints, func(a, b api.Joint) int { return compare(a.Name, b.Name) })
	slices.SortFunc(s.Flaws, func(a, b api.Flaw) int { return compare(a.Name, b.Name) })
	return s
}

func compare(a, b string) int {
	switch {
	case a < b:
		return -1
	case a > b:
		return 1
	}
	return 0
}

// randomBox returns a box in another one.
func randomBox(r *rand.Rand, in api.Box) api.Box {
	ends := func(from, to int) (int, int) {
		lo := from + r.Intn(to-from)
		return lo, lo + 1 + r.Intn(to-lo)
	}
	var b api.Box
	b.Min.X, b.Max.X = ends(in.Min.X, in.Max.X)
	b.Min.Y, b.Max.Y = ends(in.Min.Y, in.Max.Y)
	b.Min.Z, b.Max.Z = ends(in.Min.Z, in.Max.Z)
	return b
}

// has reports whether a cell lies in a box.
func has(b api.Box, x, y, z int) bool {
	return b.Min.X <= x && x < b.Max.X && b.Min.Y <= y && y < b.Max.Y && b.Min.Z <= z && z < b.Max.Z
}

// passes returns what passes through a box: there are cells of it on both sides.
func passes(s api.Survey, b api.Box) []string {
	found := map[string]bool{}
	for x := range pitSize {
		for y := range pitSize {
			for z := range pitSize {
				if !has(b, x, y, z) {
					continue
				}
				for _, bed := range s.Beds {
					if bed.Z == z && has(b, x, y, z-1) {
						found[bed.Name] = true
					}
				}
				for _, j := range s.Joints {
					x0, y0, at := x-1, y, x
					if j.Axis == api.AxisY {
						x0, y0, at = x, y-1, y
					}
					if j.At == at && has(b, x0, y0, z) && j.Lo <= z && z < j.Hi {
						found[j.Name] = true
					}
				}
			}
		}
	}
	return sorted(found)
}

func sorted(set map[string]bool) []string {
	var list []string
	for name := range set {
		list = append(list, name)
	}
	slices.Sort(list)
	return list
}

// flawed returns the flaws that overlap a box. Convex figures overlap unless an edge of one of them lies between them.
func flawed(s api.Survey, b api.Box) []string {
	found := map[string]bool{}
	rectangle := []api.Point{{X: b.Min.X, Y: b.Min.Y}, {X: b.Max.X, Y: b.Min.Y}, {X: b.Max.X, Y: b.Max.Y}, {X: b.Min.X, Y: b.Max.Y}}
	parts := func(edges, others []api.Point) bool {
		for i, p := range edges {
			q := edges[(i+1)%len(edges)]
			left := false
			for _, o := range others {
				left = left || (q.X-p.X)*(o.Y-p.Y)-(q.Y-p.Y)*(o.X-p.X) > 0
			}
			if !left {
				return true
			}
		}
		return false
	}
	for _, f := range s.Flaws {
		base := f.Prism.Base
		if f.Prism.Lo < b.Max.Z && b.Min.Z < f.Prism.Hi && !parts(base, rectangle) && !parts(rectangle, base) {
			found[f.Name] = true
		}
	}
	return sorted(found)
}

// side returns the coordinate of a side of a box.
func side(b api.Box, direction int) int {
	return []int{b.Max.X, b.Min.X, b.Max.Y, b.Min.Y}[direction]
}

// jointed returns the z of a side that are in joints, one by one.
func jointed(s api.Survey, b api.Box, direction int) []int {
	var list []int
	for z := b.Min.Z; z < b.Max.Z; z++ {
		if slices.ContainsFunc(s.Joints, func(j api.Joint) bool {
			return j.Axis == []int{0, 0, 1, 1}[direction] && j.At == side(b, direction) && j.Lo <= z && z < j.Hi
		}) {
			list = append(list, z)
		}
	}
	return list
}

// numbers returns the numbers of a normal form, or nothing if it is none.
func numbers(list []api.Interval) []int {
	var out []int
	for i, a := range list {
		if a.Lo > a.Hi || i > 0 && a.Lo <= list[i-1].Hi+1 {
			return nil
		}
		for n := a.Lo; n <= a.Hi; n++ {
			out = append(out, n)
		}
	}
	return out
}

// P13.1 to P13.3: random surveys are valid, and say of boxes what the definitions say of their cells.
func TestSurveysByCells(t *testing.T) {
	r := rand.New(rand.NewSource(13))
	for range 4000 {
		s := random(r)
		if e := survey.Check(s); e != api.OK {
			t.Fatalf("Check of %v: %d", s, e)
		}
		b := randomBox(r, s.Pit)
		if got, e := survey.Through(s, b); e != api.OK || !slices.Equal(got, passes(s, b)) {
			t.Fatalf("Through of %v in %v: %q, %d", b, s, got, e)
		}
		if got, e := survey.Flaws(s, b); e != api.OK || !slices.Equal(got, flawed(s, b)) {
			t.Fatalf("Flaws of %v in %v: %q, %d", b, s, got, e)
		}
		for direction := range 4 {
			open := s.Open[direction] && side(b, direction) == side(s.Pit, direction)
			if got, e := survey.Open(s, b, direction); e != api.OK || got != open {
				t.Fatalf("Open of %v and %d in %v: %v, %d", b, direction, s, got, e)
			}
			got, e := survey.Jointed(s, b, direction)
			if want := jointed(s, b, direction); e != api.OK || !slices.Equal(numbers(got), want) {
				t.Fatalf("Jointed of %v and %d in %v: %v, %d", b, direction, s, got, e)
			}
		}
	}
}

// P13.5: what passes through or overlaps a part, passes through or overlaps the box.
func TestPartsOfBoxes(t *testing.T) {
	r := rand.New(rand.NewSource(135))
	within := func(part, whole []string) bool {
		return !slices.ContainsFunc(part, func(name string) bool { return !slices.Contains(whole, name) })
	}
	for range 2000 {
		s := random(r)
		b := randomBox(r, s.Pit)
		part := randomBox(r, b)
		names, _ := survey.Through(s, b)
		flaws, _ := survey.Flaws(s, b)
		partNames, _ := survey.Through(s, part)
		partFlaws, _ := survey.Flaws(s, part)
		if !within(partNames, names) || !within(partFlaws, flaws) {
			t.Fatalf("%v in %v: %q, %q, but %q, %q", part, b, partNames, partFlaws, names, flaws)
		}
	}
}

// P13.5: what passes through a box passes through neither part, if the box is divided there.
func TestDividedBoxes(t *testing.T) {
	r := rand.New(rand.NewSource(1351))
	divided := 0
	check := func(s api.Survey, name string, parts ...api.Box) {
		divided++
		for _, part := range parts {
			if got, e := survey.Through(s, part); e != api.OK || slices.Contains(got, name) {
				t.Fatalf("%s passes through %v: %q, %d", name, part, got, e)
			}
		}
	}
	for range 2000 {
		s := random(r)
		b := randomBox(r, s.Pit)
		names, _ := survey.Through(s, b)
		for _, bed := range s.Beds {
			if slices.Contains(names, bed.Name) {
				low, high := b, b
				low.Max.Z, high.Min.Z = bed.Z, bed.Z
				check(s, bed.Name, low, high)
			}
		}
		for _, j := range s.Joints {
			if !slices.Contains(names, j.Name) {
				continue
			}
			low, high := b, b
			if j.Axis == api.AxisX {
				low.Max.X, high.Min.X = j.At, j.At
			} else {
				low.Max.Y, high.Min.Y = j.At, j.At
			}
			check(s, j.Name, low, high)
		}
	}
	if divided < 1000 {
		t.Errorf("only %d boxes are divided", divided)
	}
}

// P13.5: Load of the canonical line is the survey, and the order of the kids has no influence, but for corners.
func TestLoadOfLine(t *testing.T) {
	r := rand.New(rand.NewSource(1352))
	for range 2000 {
		s := random(r)
		l, e := survey.Line(s)
		if e != api.OK || parser.Check([]api.Line{l}) != api.OK {
			t.Fatalf("Line of %v: %v, %d", s, l, e)
		}
		r.Shuffle(len(l.Kids), func(i, k int) { l.Kids[i], l.Kids[k] = l.Kids[k], l.Kids[i] })
		for _, kid := range l.Kids {
			if kid.Tokens[0].Text == "open" {
				sides := kid.Tokens[1:]
				r.Shuffle(len(sides), func(i, k int) { sides[i], sides[k] = sides[k], sides[i] })
			}
		}
		if got, fault := survey.Load(l); fault != (api.Fault{}) || !survey.Equal(got, s) {
			t.Fatalf("Load of the line of %v: %v, %v", s, got, fault)
		}
	}
}

// P13.4: corners keep their order.
func TestCornersKeepTheirOrder(t *testing.T) {
	corners := []string{"    corner 0 0", "    corner 9 0", "    corner 9 9", "    corner 0 9"}
	for range corners {
		s, fault := survey.Load(withPit(t, append([]string{"  flaw f 0 5:"}, corners...)...))
		if fault != (api.Fault{}) {
			t.Fatalf("Load: %v", fault)
		}
		for i, c := range s.Flaws[0].Prism.Base {
			if got := fmt.Sprintf("    corner %d %d", c.X, c.Y); got != corners[i] {
				t.Errorf("corner %d: %s instead of %s", i, got, corners[i])
			}
		}
		corners = append(corners[1:], corners[0])
	}
}
