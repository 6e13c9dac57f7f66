package box_test

import (
	"iter"
	"math"
	"slices"
	"testing"

	"gangsaw/api"
	"gangsaw/box"
)

const most = api.MaxCoord

func vec(x, y, z int) api.Vec { return api.Vec{X: x, Y: y, Z: z} }

func from(x, y, z, toX, toY, toZ int) api.Box {
	return api.Box{Min: vec(x, y, z), Max: vec(toX, toY, toZ)}
}

// space is the greatest valid box.
func space() api.Box { return from(-most, -most, -most, most, most, most) }

// numbers returns the coordinates of a point in the order of the axes.
func numbers(p api.Vec) [3]int { return [3]int{p.X, p.Y, p.Z} }

// cube produces all points with coordinates from lo to hi, by z, then by y, then by x.
func cube(lo, hi int) iter.Seq[api.Vec] {
	return func(yield func(api.Vec) bool) {
		for z := lo; z <= hi; z++ {
			for y := lo; y <= hi; y++ {
				for x := lo; x <= hi; x++ {
					if !yield(vec(x, y, z)) {
						return
					}
				}
			}
		}
	}
}

// anyBoxes returns all boxes with coordinates from lo to hi, those without points too.
func anyBoxes(lo, hi int) []api.Box {
	var out []api.Box
	for p := range cube(lo, hi) {
		for q := range cube(lo, hi) {
			out = append(out, api.Box{Min: p, Max: q})
		}
	}
	return out
}

// validBoxes returns the valid ones of them.
func validBoxes(lo, hi int) []api.Box {
	return slices.DeleteFunc(anyBoxes(lo, hi), func(b api.Box) bool {
		return b.Min.X >= b.Max.X || b.Min.Y >= b.Max.Y || b.Min.Z >= b.Max.Z
	})
}

// lies follows the definition.
func lies(p api.Vec, b api.Box) bool {
	return b.Min.X <= p.X && p.X < b.Max.X && b.Min.Y <= p.Y && p.Y < b.Max.Y && b.Min.Z <= p.Z && p.Z < b.Max.Z
}

// points returns the points of a box with coordinates from lo to hi.
func points(b api.Box, lo, hi int) []api.Vec {
	var out []api.Vec
	for p := range cube(lo, hi) {
		if lies(p, b) {
			out = append(out, p)
		}
	}
	return out
}

// P6.1
func TestCheckAndVolume(t *testing.T) {
	for _, c := range []struct {
		b      api.Box
		code   api.Errno
		volume int64
	}{
		{from(0, 0, 0, 1, 1, 1), api.OK, 1},
		{from(0, 0, 0, 4, 4, 4), api.OK, 64},
		{from(-3, 5, -7, -1, 8, -2), api.OK, 30},
		{space(), api.OK, 8000000000000000000},
		{from(most-1, most-1, most-1, most, most, most), api.OK, 1},
		{from(-most, -most, -most, 1-most, most, 1-most), api.OK, 2 * most},
		{from(0, 0, 0, 0, 1, 1), api.ErrInvalid, 0},
		{from(0, 0, 0, 1, 0, 1), api.ErrInvalid, 0},
		{from(0, 0, 0, 1, 1, 0), api.ErrInvalid, 0},
		{from(2, 0, 0, 1, 1, 1), api.ErrInvalid, 0},
		{from(0, 2, 0, 1, 1, 1), api.ErrInvalid, 0},
		{from(0, 0, 2, 1, 1, 1), api.ErrInvalid, 0},
		// Two sides of a negative length.
		{from(2, 2, 0, 1, 1, 1), api.ErrInvalid, 0},
		{api.Box{}, api.ErrInvalid, 0},
		{from(-most-1, 0, 0, 1, 1, 1), api.ErrRange, 0},
		{from(0, -most-1, 0, 1, 1, 1), api.ErrRange, 0},
		{from(0, 0, -most-1, 1, 1, 1), api.ErrRange, 0},
		{from(0, 0, 0, most+1, 1, 1), api.ErrRange, 0},
		{from(0, 0, 0, 1, most+1, 1), api.ErrRange, 0},
		{from(0, 0, 0, 1, 1, most+1), api.ErrRange, 0},
		{from(most+1, 0, 0, 1, 1, 1), api.ErrRange, 0},
		{from(0, 0, 0, 1, -most-1, 1), api.ErrRange, 0},
		{from(5, 5, 5, 1, 1, most+1), api.ErrRange, 0},
		{from(math.MinInt, math.MinInt, math.MinInt, math.MaxInt, math.MaxInt, math.MaxInt), api.ErrRange, 0},
	} {
		if e := box.Check(c.b); e != c.code {
			t.Errorf("Check of %v: %d, want %d", c.b, e, c.code)
		}
		if n, e := box.Volume(c.b); n != c.volume || e != c.code {
			t.Errorf("Volume of %v: %d, %d, want %d, %d", c.b, n, e, c.volume, c.code)
		}
	}
}

// P6.1: any box has a size.
func TestSize(t *testing.T) {
	for _, c := range []struct {
		b    api.Box
		want api.Vec
	}{
		{from(0, 0, 0, 4, 4, 4), vec(4, 4, 4)},
		{from(-3, 5, -7, -1, 8, -2), vec(2, 3, 5)},
		{space(), vec(2*most, 2*most, 2*most)},
		{from(1, 2, 3, 1, 1, 9), vec(0, -1, 6)},
		{from(0, 0, 0, 5*most, -7*most, 0), vec(5*most, -7*most, 0)},
		{from(math.MinInt, math.MaxInt, 0, math.MinInt+1, math.MaxInt, math.MinInt), vec(1, 0, math.MinInt)},
	} {
		if got := box.Size(c.b); got != c.want {
			t.Errorf("Size of %v: %v, want %v", c.b, got, c.want)
		}
	}
}

// P6.1 and P6.3: the volume is the number of points.
func TestVolumeByPoints(t *testing.T) {
	for _, b := range validBoxes(-1, 2) {
		if n, e := box.Volume(b); int(n) != len(points(b, -2, 3)) || e != api.OK {
			t.Fatalf("Volume of %v: %d, %d", b, n, e)
		}
	}
}

// P6.2: Has, Inside and Overlap are defined for all boxes and points.
func TestHasInsideAndOverlap(t *testing.T) {
	for _, c := range []struct {
		b    api.Box
		p    api.Vec
		want bool
	}{
		{from(0, 0, 0, 4, 4, 4), vec(0, 0, 0), true},
		{from(0, 0, 0, 4, 4, 4), vec(3, 3, 3), true},
		{from(0, 0, 0, 4, 4, 4), vec(4, 3, 3), false},
		{from(0, 0, 0, 4, 4, 4), vec(3, 4, 3), false},
		{from(0, 0, 0, 4, 4, 4), vec(3, 3, 4), false},
		{from(0, 0, 0, 4, 4, 4), vec(-1, 0, 0), false},
		{from(0, 0, 0, 4, 0, 4), vec(0, 0, 0), false},
		{from(4, 4, 4, 0, 0, 0), vec(2, 2, 2), false},
		{from(math.MinInt, math.MinInt, math.MinInt, math.MaxInt, math.MaxInt, math.MaxInt), vec(math.MinInt, 0, math.MaxInt-1), true},
		{from(math.MinInt, math.MinInt, math.MinInt, math.MaxInt, math.MaxInt, math.MaxInt), vec(0, 0, math.MaxInt), false},
	} {
		if got := box.Has(c.b, c.p); got != c.want {
			t.Errorf("Has of %v and %v: %v", c.b, c.p, got)
		}
	}
	for _, c := range []struct {
		a, b            api.Box
		inside, overlap bool
	}{
		{from(2, 2, 2, 6, 6, 6), from(0, 0, 0, 4, 4, 4), false, true},
		{from(1, 1, 1, 3, 3, 3), from(0, 0, 0, 4, 4, 4), true, true},
		{from(0, 0, 0, 4, 4, 4), from(0, 0, 0, 4, 4, 4), true, true},
		{from(4, 1, 1, 5, 2, 2), from(0, 0, 0, 4, 4, 4), false, false},
		{from(0, 0, 0, 1, 1, 1), from(5, 5, 5, 6, 6, 6), false, false},
		// A box without points overlaps nothing, but may lie inside.
		{from(2, 2, 2, 2, 3, 3), from(0, 0, 0, 4, 4, 4), true, false},
		{from(4, 4, 4, 0, 0, 0), from(0, 0, 0, 4, 4, 4), true, false},
		{from(4, 4, 4, 0, 0, 0), from(4, 4, 4, 0, 0, 0), true, false},
		{from(0, 0, 0, 4, 4, 4), from(4, 4, 4, 0, 0, 0), false, false},
		{from(math.MinInt, 0, 0, math.MaxInt, 1, 1), from(-9, -9, -9, 9, 9, 9), false, true},
		{from(-9, -9, -9, 9, 9, 9), from(math.MinInt, math.MinInt, math.MinInt, math.MaxInt, math.MaxInt, math.MaxInt), true, true},
		{from(math.MaxInt, 0, 0, math.MinInt, 9, 9), from(-9, -9, -9, 9, 9, 9), true, false},
	} {
		if got := box.Inside(c.a, c.b); got != c.inside {
			t.Errorf("Inside of %v and %v: %v", c.a, c.b, got)
		}
		if got := box.Overlap(c.a, c.b); got != c.overlap {
			t.Errorf("Overlap of %v and %v: %v", c.a, c.b, got)
		}
		if got := box.Overlap(c.b, c.a); got != c.overlap {
			t.Errorf("Overlap of %v and %v: %v", c.b, c.a, got)
		}
	}
}

// P6.2: by the definitions, for all small boxes, those without points too.
func TestHasInsideAndOverlapByPoints(t *testing.T) {
	all := anyBoxes(0, 2)
	for _, a := range all {
		inA := map[api.Vec]bool{}
		for p := range cube(-1, 3) {
			if inA[p] = lies(p, a); box.Has(a, p) != inA[p] {
				t.Fatalf("Has of %v and %v: %v", a, p, !inA[p])
			}
		}
		for _, b := range all {
			overlap := slices.ContainsFunc(points(b, 0, 1), func(p api.Vec) bool { return inA[p] })
			if box.Overlap(a, b) != overlap {
				t.Fatalf("Overlap of %v and %v: %v", a, b, !overlap)
			}
			inside := true
			for axis := range 3 {
				inside = inside && numbers(a.Min)[axis] >= numbers(b.Min)[axis] && numbers(a.Max)[axis] <= numbers(b.Max)[axis]
			}
			if box.Inside(a, b) != inside {
				t.Fatalf("Inside of %v and %v: %v", a, b, !inside)
			}
		}
	}
}

// P6.2
func TestTouch(t *testing.T) {
	a := from(0, 0, 0, 4, 4, 4)
	for _, c := range []struct {
		b    api.Box
		want int
		code api.Errno
	}{
		{from(4, 1, 1, 5, 2, 2), api.PlusX, api.OK},
		{from(-2, 1, 1, 0, 2, 2), api.MinusX, api.OK},
		{from(1, 4, 1, 2, 9, 2), api.PlusY, api.OK},
		{from(1, -5, 1, 2, 0, 2), api.MinusY, api.OK},
		{from(1, 1, 4, 2, 2, 5), api.PlusZ, api.OK},
		{from(1, 1, -1, 2, 2, 0), api.MinusZ, api.OK},
		{from(4, -9, -9, 5, 9, 9), api.PlusX, api.OK},
		{from(4, 3, 3, 5, 9, 9), api.PlusX, api.OK},
		{from(-9, -9, 4, 1, 1, 5), api.PlusZ, api.OK},
		// Only an edge or a corner is common.
		{from(4, 4, 0, 5, 5, 1), 0, api.ErrNone},
		{from(4, 0, 4, 5, 1, 5), 0, api.ErrNone},
		{from(0, 4, 4, 1, 5, 5), 0, api.ErrNone},
		{from(-1, 4, 0, 0, 5, 1), 0, api.ErrNone},
		{from(4, 4, 4, 5, 5, 5), 0, api.ErrNone},
		// The planes are the same, but far away.
		{from(4, 5, 1, 5, 6, 2), 0, api.ErrNone},
		{from(1, 4, -3, 2, 5, -2), 0, api.ErrNone},
		// Apart, and overlapping.
		{from(5, 1, 1, 6, 2, 2), 0, api.ErrNone},
		{from(3, 1, 1, 6, 2, 2), 0, api.ErrNone},
		{from(1, 1, 1, 4, 4, 4), 0, api.ErrNone},
		{a, 0, api.ErrNone},
	} {
		if got, e := box.Touch(a, c.b); got != c.want || e != c.code {
			t.Errorf("Touch of %v and %v: %d, %d, want %d, %d", a, c.b, got, e, c.want, c.code)
		}
	}
	half := from(-most, -most, -most, 0, most, most)
	if got, e := box.Touch(half, from(0, -most, -most, most, most, most)); got != api.PlusX || e != api.OK {
		t.Errorf("Touch of two halves of space: %d, %d", got, e)
	}
}

// contact follows the definition; there is no contact in the direction -1.
func contact(a, b api.Box) int {
	fromA, toA, fromB, toB := numbers(a.Min), numbers(a.Max), numbers(b.Min), numbers(b.Max)
	share := func(axis int) bool {
		for n := fromA[axis]; n < toA[axis]; n++ {
			if fromB[axis] <= n && n < toB[axis] {
				return true
			}
		}
		return false
	}
	for axis := range 3 {
		if !share((axis+1)%3) || !share((axis+2)%3) {
			continue
		}
		if fromB[axis] == toA[axis] {
			return 2 * axis
		}
		if toB[axis] == fromA[axis] {
			return 2*axis + 1
		}
	}
	return -1
}

// P6.2, P6.3 and P6.6: by the definitions, for all pairs of small boxes; there and back.
func TestPairsOfSmallBoxes(t *testing.T) {
	all := validBoxes(0, 3)
	for _, a := range all {
		for _, b := range all {
			want := contact(a, b)
			got, e := box.Touch(a, b)
			if want < 0 && (got != 0 || e != api.ErrNone) || want >= 0 && (got != want || e != api.OK) {
				t.Fatalf("Touch of %v and %v: %d, %d", a, b, got, e)
			}
			if back, _ := box.Touch(b, a); e == api.OK && back != got^1 {
				t.Fatalf("Touch of %v and %v: %d, and back: %d", a, b, got, back)
			}
			hull, e := box.Hull(a, b)
			for axis := range 3 {
				low := min(numbers(a.Min)[axis], numbers(b.Min)[axis])
				high := max(numbers(a.Max)[axis], numbers(b.Max)[axis])
				if e != api.OK || numbers(hull.Min)[axis] != low || numbers(hull.Max)[axis] != high {
					t.Fatalf("Hull of %v and %v: %v, %d", a, b, hull, e)
				}
			}
			checkCommon(t, a, b)
		}
	}
}

// checkCommon compares the points of the intersection of two small boxes with those that lie in both.
func checkCommon(t *testing.T, a, b api.Box) {
	both := slices.DeleteFunc(points(a, 0, 2), func(p api.Vec) bool { return !lies(p, b) })
	got, e := box.Intersect(a, b)
	if len(both) == 0 {
		if got != (api.Box{}) || e != api.ErrNone {
			t.Fatalf("Intersect of %v and %v: %v, %d", a, b, got, e)
		}
		return
	}
	if e != api.OK || !slices.Equal(points(got, -1, 4), both) {
		t.Fatalf("Intersect of %v and %v: %v, %d", a, b, got, e)
	}
}

// P6.3
func TestIntersectAndHull(t *testing.T) {
	a := from(0, 0, 0, 4, 4, 4)
	for _, c := range []struct {
		b, common, hull api.Box
		code            api.Errno
	}{
		{from(2, 2, 2, 6, 6, 6), from(2, 2, 2, 4, 4, 4), from(0, 0, 0, 6, 6, 6), api.OK},
		{a, a, a, api.OK},
		{from(1, -5, 2, 9, 9, 3), from(1, 0, 2, 4, 4, 3), from(0, -5, 0, 9, 9, 4), api.OK},
		{from(4, 1, 1, 5, 2, 2), api.Box{}, from(0, 0, 0, 5, 4, 4), api.ErrNone},
		{from(7, -8, 9, 8, -7, 10), api.Box{}, from(0, -8, 0, 8, 4, 10), api.ErrNone},
		{space(), a, space(), api.OK},
	} {
		if got, e := box.Intersect(a, c.b); got != c.common || e != c.code {
			t.Errorf("Intersect of %v and %v: %v, %d, want %v, %d", a, c.b, got, e, c.common, c.code)
		}
		if got, e := box.Hull(a, c.b); got != c.hull || e != api.OK {
			t.Errorf("Hull of %v and %v: %v, %d, want %v", a, c.b, got, e, c.hull)
		}
	}
}

// P6.3
func TestMove(t *testing.T) {
	far := from(most-4, 0, -most, most, 4, 4-most)
	for _, c := range []struct {
		b    api.Box
		by   api.Vec
		want api.Box
		code api.Errno
	}{
		{from(0, 0, 0, 4, 5, 6), vec(1, -2, 3), from(1, -2, 3, 5, 3, 9), api.OK},
		{from(0, 0, 0, 4, 5, 6), vec(0, 0, 0), from(0, 0, 0, 4, 5, 6), api.OK},
		{far, vec(4-2*most, -most, 2*most-4), from(-most, -most, most-4, 4-most, 4-most, most), api.OK},
		{far, vec(0, most-4, 0), from(most-4, most-4, -most, most, most, 4-most), api.OK},
		{far, vec(1, 0, 0), api.Box{}, api.ErrRange},
		{far, vec(3-2*most, 0, 0), api.Box{}, api.ErrRange},
		{far, vec(0, most-3, 0), api.Box{}, api.ErrRange},
		{far, vec(0, -most-1, 0), api.Box{}, api.ErrRange},
		{far, vec(0, 0, -1), api.Box{}, api.ErrRange},
		{far, vec(0, 0, 2*most-3), api.Box{}, api.ErrRange},
		{space(), vec(0, 0, 0), space(), api.OK},
		{space(), vec(0, 0, 1), api.Box{}, api.ErrRange},
		// Sums that cannot even be computed.
		{from(1, 1, 1, 2, 2, 2), vec(math.MaxInt, 0, 0), api.Box{}, api.ErrRange},
		{from(1, 1, 1, 2, 2, 2), vec(0, math.MaxInt, 0), api.Box{}, api.ErrRange},
		{from(-2, -2, -2, -1, -1, -1), vec(0, 0, math.MinInt), api.Box{}, api.ErrRange},
		{from(1, 1, 1, 2, 2, 2), vec(math.MinInt, math.MaxInt, math.MinInt), api.Box{}, api.ErrRange},
	} {
		if got, e := box.Move(c.b, c.by); got != c.want || e != c.code {
			t.Errorf("Move of %v by %v: %v, %d, want %v, %d", c.b, c.by, got, e, c.want, c.code)
		}
	}
}

// P6.6: moving there and back; moving both boxes.
func TestMoveThereAndBack(t *testing.T) {
	all := validBoxes(0, 2)
	for _, by := range []api.Vec{vec(5, -7, 0), vec(-2, 1, 1), vec(most-2, -most, most-2)} {
		back := vec(-by.X, -by.Y, -by.Z)
		for _, a := range all {
			movedA, e := box.Move(a, by)
			if again, f := box.Move(movedA, back); again != a || e != api.OK || f != api.OK {
				t.Fatalf("Move of %v by %v: %v, %d, and back: %v, %d", a, by, movedA, e, again, f)
			}
			for _, b := range all {
				movedB, _ := box.Move(b, by)
				if box.Overlap(a, b) != box.Overlap(movedA, movedB) {
					t.Fatalf("Overlap of %v and %v, and moved by %v", a, b, by)
				}
				direction, e := box.Touch(a, b)
				if moved, f := box.Touch(movedA, movedB); moved != direction || e != f {
					t.Fatalf("Touch of %v and %v: %d, %d, and moved by %v: %d, %d", a, b, direction, e, by, moved, f)
				}
			}
		}
	}
}
