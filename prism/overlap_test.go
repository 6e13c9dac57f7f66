package prism_test

import (
	"testing"

	"gangsaw/api"
	"gangsaw/box"
	"gangsaw/prism"
)

// P8.2 and P8.3
func TestPrismsAndBoxes(t *testing.T) {
	flat := with(0, 5, -most, -most, most, most-1, most, most)
	for _, c := range []struct {
		p                api.Prism
		b                api.Box
		overlaps, covers bool
		separator        int
	}{
		{wedge(), from(5, 5, 0, 9, 9, 5), false, false, 1},
		{wedge(), from(4, 5, 0, 9, 9, 5), true, false, -1},
		{wedge(), from(1, 1, 1, 4, 4, 2), true, true, -1},
		{wedge(), from(1, 1, 1, 6, 6, 2), true, false, -1},
		{wedge(), from(-5, 3, 0, 0, 4, 5), false, false, 2},
		// Corners on the border are covered.
		{wedge(), from(0, 0, 0, 5, 5, 5), true, true, -1},
		{wedge(), from(0, 0, 0, 5, 6, 5), true, false, -1},
		{wedge(), from(0, 0, 0, 10, 1, 5), true, false, -1},
		{wedge(), from(-1, 1, 1, 4, 4, 2), true, false, -1},
		{wedge(), from(1, -1, 1, 4, 4, 2), true, false, -1},
		// The box contains the prism.
		{wedge(), space(), true, false, -1},
		{wedge(), from(0, 0, 0, 10, 10, 5), true, false, -1},
		// The ranges of z: overlapping, touching and apart.
		{wedge(), from(1, 1, 4, 4, 4, 6), true, false, -1},
		{wedge(), from(1, 1, -1, 4, 4, 1), true, false, -1},
		{wedge(), from(1, 1, 4, 4, 4, 5), true, true, -1},
		{wedge(), from(1, 1, 5, 4, 4, 6), false, false, -1},
		{wedge(), from(1, 1, -2, 4, 4, 0), false, false, -1},
		{wedge(), from(1, 1, 8, 4, 4, 9), false, false, -1},
		// The least edge is named, where several separate.
		{wedge(), from(-5, -5, 0, 0, 0, 5), false, false, 0},
		{wedge(), from(10, -5, 0, 12, 0, 5), false, false, 0},
		{wedge(), from(10, 0, 0, 12, 2, 5), false, false, 1},
		{wedge(), from(-5, 10, 0, 0, 12, 5), false, false, 2},
		{wedge(), from(-5, 10, 0, 1, 12, 5), false, false, 1002},
		{wedge(), from(10, -5, 0, 12, 1, 5), false, false, 1000},
		// Only a side of the rectangle separates.
		{with(0, 5, 0, 0, 10, -5, 10, 5), from(-5, -3, 0, 0, 3, 5), false, false, 1001},
		{with(0, 5, 0, 0, -10, 5, -10, -5), from(0, -3, 0, 5, 3, 5), false, false, 1000},
		{with(0, 5, 0, 0, -5, -10, 5, -10), from(-3, 0, 0, 3, 5, 5), false, false, 1002},
		{with(0, 5, 0, 0, 5, 10, -5, 10), from(-3, -5, 0, 3, 0, 5), false, false, 1003},
		{with(0, 5, 0, 0, 10, -5, 10, 5), from(-5, -3, 0, 1, 3, 5), true, false, -1},
		// Long and thin, at the greatest coordinates.
		{flat, from(0, -1, 0, 1, 0, 5), true, false, -1},
		{flat, from(0, 0, 0, 1, 1, 5), true, false, -1},
		{flat, from(0, 1, 0, 1, 2, 5), false, false, 2},
		{flat, from(0, -2, 0, 1, -1, 5), false, false, 0},
		{flat, from(most-1, most-1, 0, most, most, 5), true, false, -1},
		{flat, from(most-2, most-1, 0, most-1, most, 5), false, false, 2},
	} {
		if got, e := prism.Overlaps(c.p, c.b); got != c.overlaps || e != api.OK {
			t.Errorf("Overlaps of %v and %v: %v, %d", c.p, c.b, got, e)
		}
		if got, e := prism.Covers(c.p, c.b); got != c.covers || e != api.OK {
			t.Errorf("Covers of %v and %v: %v, %d", c.p, c.b, got, e)
		}
		if got, e := prism.Separator(c.p, c.b); got != c.separator || e != api.OK {
			t.Errorf("Separator of %v and %v: %d, %d, want %d", c.p, c.b, got, e, c.separator)
		}
	}
}

// P8.2
func TestMeets(t *testing.T) {
	thin := with(0, 5, -most, -most, most, most-1, most, most)
	for _, c := range []struct {
		p, q api.Prism
		want bool
	}{
		{wedge(), wedge(), true},
		// The slanted edges touch each other.
		{wedge(), with(0, 5, 10, 0, 10, 10, 0, 10), false},
		{wedge(), with(0, 5, 9, 0, 9, 9, 0, 9), true},
		// Only a corner, or a part of an edge, is common.
		{wedge(), with(0, 5, 5, 5, 9, 6, 6, 9), false},
		{wedge(), with(0, 5, 4, 5, 9, 6, 6, 9), true},
		{wedge(), with(0, 5, -3, 2, 0, 3, 0, 5), false},
		{wedge(), with(0, 5, -3, 2, 1, 3, 0, 5), true},
		// A cross: no corner lies in the other base.
		{with(0, 5, -9, -1, 9, -1, 9, 1, -9, 1), with(0, 5, -1, -9, 1, -9, 1, 9, -1, 9), true},
		// One within the other.
		{wedge(), with(1, 2, 1, 1, 2, 1, 1, 2), true},
		// Only an edge of the first one separates, or one of the second one.
		{with(0, 5, 0, 0, 10, -5, 10, 5), with(0, 5, 0, -3, 0, 3, -1, 0), false},
		{with(0, 5, 0, 0, 10, -5, 10, 5), with(0, 5, 1, -3, 1, 3, -1, 0), true},
		// The ranges of z: overlapping, touching and apart.
		{wedge(), with(4, 9, 0, 0, 10, 0, 0, 10), true},
		{wedge(), with(5, 9, 0, 0, 10, 0, 0, 10), false},
		{wedge(), with(-2, 0, 0, 0, 10, 0, 0, 10), false},
		{wedge(), with(-2, 1, 0, 0, 10, 0, 0, 10), true},
		{wedge(), with(7, 9, 0, 0, 10, 0, 0, 10), false},
		// At the greatest coordinates.
		{thin, with(0, 5, -most, -most, most, most, -most, most), false},
		{thin, with(0, 5, -most, -most, most, most-2, most, most-1), false},
		{thin, with(0, 5, -most, 1-most, most-1, -most, most, most), true},
	} {
		if got, e := prism.Meets(c.p, c.q); got != c.want || e != api.OK {
			t.Errorf("Meets of %v and %v: %v, %d", c.p, c.q, got, e)
		}
		if got, e := prism.Meets(c.q, c.p); got != c.want || e != api.OK {
			t.Errorf("Meets of %v and %v: %v, %d", c.q, c.p, got, e)
		}
	}
}

// separator follows the definition.
func separator(p api.Prism, b api.Box) int {
	rectangle := rectangle(b)
	all := func(list api.Polygon, is func(q api.Point) bool) bool {
		for _, q := range list {
			if !is(q) {
				return false
			}
		}
		return true
	}
	for i, q := range p.Base {
		next := p.Base[(i+1)%len(p.Base)]
		if all(rectangle, func(r api.Point) bool { return turn(q, next, r) <= 0 }) {
			return i
		}
	}
	for i, is := range []func(q api.Point) bool{
		func(q api.Point) bool { return q.X <= b.Min.X },
		func(q api.Point) bool { return q.X >= b.Max.X },
		func(q api.Point) bool { return q.Y <= b.Min.Y },
		func(q api.Point) bool { return q.Y >= b.Max.Y },
	} {
		if all(p.Base, is) {
			return 1000 + i
		}
	}
	return -1
}

// P8.2, P8.3 and P8.5: by the common parts of small bases and rectangles; a box overlaps exactly if the ranges of z overlap and nothing separates.
func TestPrismsAndBoxesByParts(t *testing.T) {
	list := convexBases(4)
	for i := 0; i < len(list); i += 13 {
		base := list[i]
		for _, b := range smallBoxes() {
			p := api.Prism{Base: base, Lo: 0, Hi: 3}
			inZ := b.Min.Z < p.Hi && p.Lo < b.Max.Z
			common := commonArea(base, rectangle(b)).Sign() > 0
			overlaps, e := prism.Overlaps(p, b)
			if overlaps != (inZ && common) || e != api.OK {
				t.Fatalf("Overlaps of %v and %v: %v, %d", p, b, overlaps, e)
			}
			edge, e := prism.Separator(p, b)
			if edge != separator(p, b) || e != api.OK || (edge < 0) != common {
				t.Fatalf("Separator of %v and %v: %d, %d, want %d", p, b, edge, e, separator(p, b))
			}
			covers, e := prism.Covers(p, b)
			if covers != (holds(base, rectangle(b)) && p.Lo <= b.Min.Z && b.Max.Z <= p.Hi) || e != api.OK {
				t.Fatalf("Covers of %v and %v: %v, %d", p, b, covers, e)
			}
			hull, _ := prism.Hull(p)
			if covers && !overlaps || overlaps && !box.Overlap(hull, b) {
				t.Fatalf("%v and %v: covered %v, overlapping %v, hull %v", p, b, covers, overlaps, hull)
			}
		}
	}
}

// P8.2 and P8.5: by the common parts of all small bases; the order does not matter, nor does moving both.
func TestMeetsByParts(t *testing.T) {
	list := convexBases(3)
	by := vec(-most, most-3, 1)
	for _, a := range list {
		for _, b := range list {
			p, q := api.Prism{Base: a, Lo: 0, Hi: 2}, api.Prism{Base: b, Lo: 1, Hi: 5}
			want := commonArea(a, b).Sign() > 0
			if got, e := prism.Meets(p, q); got != want || e != api.OK {
				t.Fatalf("Meets of %v and %v: %v, %d", p, q, got, e)
			}
			if got, e := prism.Meets(q, p); got != want || e != api.OK {
				t.Fatalf("Meets of %v and %v: %v, %d", q, p, got, e)
			}
			p, _ = prism.Move(p, by)
			q, _ = prism.Move(q, by)
			if got, e := prism.Meets(p, q); got != want || e != api.OK {
				t.Fatalf("Meets of %v and %v, both moved: %v, %d", p, q, got, e)
			}
		}
	}
}

// P8.5: the prisms of boxes overlap where the boxes do, and moving a prism and a box changes nothing.
func TestPrismsOfBoxes(t *testing.T) {
	by := vec(most-6, 1-most, -7)
	list := smallBoxes()
	for _, a := range list {
		p, _ := prism.Of(a)
		moved, e := prism.Move(p, by)
		if e != api.OK {
			t.Fatalf("Move of %v: %d", p, e)
		}
		for _, b := range list {
			q, _ := prism.Of(b)
			there, _ := box.Move(b, by)
			overlaps, _ := prism.Overlaps(p, b)
			meets, _ := prism.Meets(p, q)
			again, _ := prism.Overlaps(moved, there)
			if want := box.Overlap(a, b); overlaps != want || meets != want || again != want {
				t.Fatalf("%v and %v: overlapping %v, of prisms %v, %v, moved %v", a, b, want, overlaps, meets, again)
			}
			covers, _ := prism.Covers(p, b)
			again, _ = prism.Covers(moved, there)
			if want := box.Inside(b, a); covers != want || again != want {
				t.Fatalf("%v in %v: %v, covered %v, moved %v", b, a, want, covers, again)
			}
		}
	}
}
