package polygon_test

import (
	"iter"
	"math/rand"
	"slices"
	"testing"

	"gangsaw/api"
	"gangsaw/polygon"
)

// isLess reports whether p comes before q: by X, then by Y.
func isLess(p, q api.Point) bool { return p.X < q.X || p.X == q.X && p.Y < q.Y }

// isHull reports whether p is the hull of a list: its corners are points of the list, all turns are to the left and go around once, no point lies on the right of a side, and it begins with the least point.
func isHull(p api.Polygon, list []api.Point) bool {
	n := len(p)
	falls := 0
	for i, a := range p {
		b := p[(i+1)%n]
		if !slices.Contains(list, a) || cross(a, b, b, p[(i+2)%n]) <= 0 {
			return false
		}
		for _, q := range list {
			if cross(a, b, a, q) < 0 || isLess(q, p[0]) {
				return false
			}
		}
		if isLess(b, a) && !isLess(p[(i+2)%n], b) {
			falls++
		}
	}
	return n >= 3 && falls == 1
}

// pointLists produces lists of points, always the same ones; many have equal points, or points on lines.
func pointLists() iter.Seq[[]api.Point] {
	r := rand.New(rand.NewSource(2))
	return func(yield func([]api.Point) bool) {
		for range 20000 {
			width, height := 1+r.Intn(9), 1+r.Intn(9)
			var list []api.Point
			for range r.Intn(14) {
				list = append(list, pt(r.Intn(width)-3, r.Intn(height)-3))
			}
			if !yield(list) {
				return
			}
		}
	}
}

// onOneLine reports whether there is no triangle in a list.
func onOneLine(list []api.Point) bool {
	for _, a := range list {
		for _, b := range list {
			for _, c := range list {
				if cross(a, b, a, c) != 0 {
					return false
				}
			}
		}
	}
	return true
}

// P5.3
func TestHull(t *testing.T) {
	for _, c := range []struct{ list, want []api.Point }{
		{poly(0, 0, 1, 0, 0, 1), poly(0, 0, 1, 0, 0, 1)},
		{poly(0, 1, 1, 0, 0, 0), poly(0, 0, 1, 0, 0, 1)},
		// Points inside, points on the sides, and corners that come several times.
		{poly(5, 5, 10, 10, 0, 0, 10, 0, 0, 10), poly(0, 0, 10, 0, 10, 10, 0, 10)},
		{poly(5, 0, 10, 5, 5, 10, 0, 5, 10, 10, 0, 0, 10, 0, 0, 10), poly(0, 0, 10, 0, 10, 10, 0, 10)},
		{poly(0, 0, 4, 0, 0, 0, 2, 5, 4, 0, 2, 5, 2, 5), poly(0, 0, 4, 0, 2, 5)},
		// The least corner is that with the least X, then with the least Y.
		{poly(3, -9, -1, 7, -1, 2, 4, 4), poly(-1, 2, 3, -9, 4, 4, -1, 7)},
		{poly(0, 5, 5, 0, 9, 5, 5, 9), poly(0, 5, 5, 0, 9, 5, 5, 9)},
		// Points on the slanted ways to the last corner and back.
		{poly(0, 0, 1, 1, 2, 2, 3, 3, 4, 4, 0, 4, 1, 4), poly(0, 0, 4, 4, 0, 4)},
		{poly(0, 0, 4, 4, 1, 1, 2, 2, 3, 3, 4, 0), poly(0, 0, 4, 0, 4, 4)},
		// The greatest coordinates: triangles that are nearly lines.
		{poly(-most, -most, most, most, 0, 0, 0, 1), poly(-most, -most, most, most, 0, 1)},
		{poly(-most, most, most, -most, 0, 0, 1, 0), poly(-most, most, most, -most, 1, 0)},
		{poly(-most, -most, most, -most, most, most, -most, most, 0, 0), poly(-most, -most, most, -most, most, most, -most, most)},
	} {
		if got, e := polygon.Hull(c.list); !slices.Equal(got, c.want) || e != api.OK {
			t.Errorf("Hull of %v: %v, %d, want %v", c.list, got, e, c.want)
		}
	}
}

// P5.3 and P5.5: the hull is convex and has no point outside; there is none exactly if all points lie on a line.
func TestHullByDefinition(t *testing.T) {
	for list := range pointLists() {
		got, e := polygon.Hull(list)
		if onOneLine(list) {
			if len(got) != 0 || e != api.ErrNone {
				t.Fatalf("Hull of %v: %v, %d", list, got, e)
			}
			continue
		}
		if e != api.OK || !isHull(got, list) {
			t.Fatalf("Hull of %v: %v, %d", list, got, e)
		}
		if is, e := polygon.Convex(got); !is || e != api.OK {
			t.Fatalf("Convex of the hull %v: %v, %d", got, is, e)
		}
		for _, q := range list {
			if n, e := polygon.Side(got, q); n < 0 || e != api.OK {
				t.Fatalf("%v lies outside the hull %v: %d, %d", q, got, n, e)
			}
		}
		back := slices.Clone(list)
		slices.Reverse(back)
		if again, _ := polygon.Hull(back); !slices.Equal(again, got) {
			t.Fatalf("the order of %v matters", list)
		}
	}
}

// P5.3: as many points as are allowed, within the hull, and all as corners of it, which are then more than a polygon may have.
func TestHullOfManyPoints(t *testing.T) {
	r := rand.New(rand.NewSource(3))
	list := make([]api.Point, polygon.MaxPoints)
	for i := range list {
		list[i] = pt(r.Intn(2*most+1)-most, r.Intn(2*most+1)-most)
	}
	if got, e := polygon.Hull(list); e != api.OK || !isHull(got, list) {
		t.Errorf("Hull of many points: %v, %d", got, e)
	}
	curve := parabola(polygon.MaxPoints)
	want := slices.Clone(curve)
	r.Shuffle(len(curve), func(i, k int) { curve[i], curve[k] = curve[k], curve[i] })
	if got, e := polygon.Hull(curve); e != api.OK || !slices.Equal(got, want) {
		t.Errorf("Hull of many corners: %d corners, %d", len(got), e)
	}
}

// P5.4
func TestCanonical(t *testing.T) {
	for _, c := range []struct{ p, want api.Polygon }{
		{poly(0, 0, 1, 0, 0, 1), poly(0, 0, 1, 0, 0, 1)},
		{poly(1, 0, 0, 1, 0, 0), poly(0, 0, 1, 0, 0, 1)},
		{poly(0, 0, 0, 1, 1, 0), poly(0, 0, 1, 0, 0, 1)},
		// Several corners have the least X; corners on a line between their neighbours stay.
		{poly(0, 10, 0, 5, 0, 0, 10, 0, 10, 10), poly(0, 0, 10, 0, 10, 10, 0, 10, 0, 5)},
		{poly(0, 5, 0, 10, 10, 10, 10, 0, 0, 0), poly(0, 0, 10, 0, 10, 10, 0, 10, 0, 5)},
		// The least corner has not the least Y.
		{poly(5, -9, 9, 5, -5, 3), poly(-5, 3, 5, -9, 9, 5)},
		// A dent at the least corner.
		{poly(0, 0, 10, 0, 10, 10, 5, 5, 0, 10), poly(0, 0, 10, 0, 10, 10, 5, 5, 0, 10)},
		{poly(most, most, most, -most, -most, -most, -most, most), poly(-most, -most, most, -most, most, most, -most, most)},
	} {
		if got, e := polygon.Canonical(c.p); !slices.Equal(got, c.want) || e != api.OK {
			t.Errorf("Canonical of %v: %v, %d, want %v", c.p, got, e, c.want)
		}
	}
}

// P5.4 and P5.5: Canonical is p or its reverse, turned to the least corner; it depends neither on the first corner nor on the direction; Reverse negates the area.
func TestCanonicalOfTurnedPolygons(t *testing.T) {
	for p := range simplePolygons() {
		want, e := polygon.Canonical(p)
		area, _ := polygon.Area2(want)
		if e != api.OK || area <= 0 || len(want) != len(p) {
			t.Fatalf("Canonical of %v: %v, %d", p, want, e)
		}
		found := false
		for _, direction := range []api.Polygon{p, polygon.Reverse(p)} {
			for i := range direction {
				turned := slices.Concat(direction[i:], direction[:i])
				found = found || slices.Equal(turned, want)
				if isLess(turned[0], want[0]) {
					t.Fatalf("Canonical of %v begins with %v", p, want[0])
				}
				if got, _ := polygon.Canonical(turned); !slices.Equal(got, want) {
					t.Fatalf("Canonical of %v: %v, want %v", turned, got, want)
				}
			}
		}
		if !found {
			t.Fatalf("Canonical of %v: %v", p, want)
		}
	}
}

// P5.5: the doubled area of Reverse is the negative one.
func TestAreaOfReverse(t *testing.T) {
	for p := range polygons() {
		area, _ := polygon.Area2(p)
		if back, e := polygon.Area2(polygon.Reverse(p)); back != -area || e != api.OK {
			t.Fatalf("Area2 of %v and its reverse: %d, %d", p, area, back)
		}
	}
}
