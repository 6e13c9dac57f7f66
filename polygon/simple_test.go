package polygon_test

import (
	"iter"
	"math/rand"
	"slices"
	"testing"

	"gangsaw/api"
	"gangsaw/polygon"
)

// cross returns the component z of the vector product of b - a and d - c.
func cross(a, b, c, d api.Point) int {
	return (b.X-a.X)*(d.Y-c.Y) - (b.Y-a.Y)*(d.X-c.X)
}

// meets returns how many points two segments have in common: 0, 1, or 2 for more. It solves a + s (b - a) = c + t (d - c), all points being small and a unlike b, c unlike d.
func meets(a, b, c, d api.Point) int {
	n := cross(a, b, c, d)
	s, t := cross(a, c, c, d), cross(a, c, a, b)
	if n < 0 {
		n, s, t = -n, -s, -t
	}
	if n > 0 {
		if 0 <= s && s <= n && 0 <= t && t <= n {
			return 1
		}
		return 0
	}
	if t != 0 {
		return 0
	}
	// Both lie on one line, and along it the number grows.
	along := func(p api.Point) int { return (p.X-a.X)*(b.X-a.X) + (p.Y-a.Y)*(b.Y-a.Y) }
	from := max(0, min(along(c), along(d)))
	to := min(along(b), max(along(c), along(d)))
	switch {
	case from < to:
		return 2
	case from == to:
		return 1
	}
	return 0
}

// simple follows the definition.
func simple(p api.Polygon) bool {
	n := len(p)
	for i := range n {
		for k := range n {
			common := meets(p[i], p[(i+1)%n], p[k], p[(k+1)%n])
			switch {
			case i == k:
			case (i+1)%n == k || (k+1)%n == i:
				if common != 1 {
					return false
				}
			case common != 0:
				return false
			}
		}
	}
	return true
}

// convex follows the definition.
func convex(p api.Polygon) bool {
	n := len(p)
	for i := range n {
		if cross(p[i], p[(i+1)%n], p[i], p[(i+2)%n]) <= 0 {
			return false
		}
	}
	return simple(p)
}

// where follows the definition, with a ray so nearly horizontal that it passes no point with small coordinates but its own.
func where(p api.Polygon, q api.Point) int {
	far := pt(q.X+1000, q.Y+1)
	crossed := 0
	for i, a := range p {
		b := p[(i+1)%len(p)]
		if cross(a, b, a, q) == 0 && min(a.X, b.X) <= q.X && q.X <= max(a.X, b.X) && min(a.Y, b.Y) <= q.Y && q.Y <= max(a.Y, b.Y) {
			return 0
		}
		crossed += meets(a, b, q, far)
	}
	return crossed%2*2 - 1
}

// smallPolygons produces all valid polygons with n corners whose coordinates are from 0 to size - 1.
func smallPolygons(n, size int) iter.Seq[api.Polygon] {
	return func(yield func(api.Polygon) bool) {
		var p api.Polygon
		var extend func() bool
		extend = func() bool {
			if len(p) == n {
				return p[0] == p[n-1] || yield(slices.Clone(p))
			}
			for i := range size * size {
				q := pt(i%size, i/size)
				if len(p) > 0 && p[len(p)-1] == q {
					continue
				}
				p = append(p, q)
				if !extend() {
					return false
				}
				p = p[:len(p)-1]
			}
			return true
		}
		extend()
	}
}

// somePolygons produces valid polygons with 3 to 12 corners and small coordinates, always the same ones.
func somePolygons() iter.Seq[api.Polygon] {
	r := rand.New(rand.NewSource(1))
	return func(yield func(api.Polygon) bool) {
		for range 40000 {
			var p api.Polygon
			size := 3 + r.Intn(18)
			for range 3 + r.Intn(10) {
				p = append(p, pt(r.Intn(size)-size/2, r.Intn(size)-size/2))
			}
			p = slices.Compact(p)
			if len(p) < 3 || p[0] == p[len(p)-1] {
				continue
			}
			if !yield(p) {
				return
			}
		}
	}
}

// polygons produces all those polygons.
func polygons() iter.Seq[api.Polygon] {
	return func(yield func(api.Polygon) bool) {
		for _, some := range []iter.Seq[api.Polygon]{smallPolygons(3, 4), smallPolygons(4, 3), smallPolygons(5, 3), somePolygons()} {
			for p := range some {
				if !yield(p) {
					return
				}
			}
		}
	}
}

// simplePolygons produces those of them that are simple.
func simplePolygons() iter.Seq[api.Polygon] {
	return func(yield func(api.Polygon) bool) {
		for p := range polygons() {
			if simple(p) && !yield(p) {
				return
			}
		}
	}
}

// P5.2
func TestSimple(t *testing.T) {
	for _, c := range []struct {
		p    api.Polygon
		want bool
	}{
		{poly(0, 0, 1, 0, 0, 1), true},
		{poly(0, 0, 0, 1, 1, 0), true},
		{poly(0, 0, 10, 0, 10, 10, 0, 10), true},
		// A corner on the line between its neighbours.
		{poly(0, 0, 5, 0, 10, 0, 10, 10, 0, 10), true},
		// A deep dent.
		{poly(0, 0, 10, 0, 10, 10, 5, 1, 0, 10), true},
		// The dent touches the opposite side, with its corner and with a side, and passes through it.
		{poly(0, 0, 10, 0, 10, 10, 5, 0, 0, 10), false},
		{poly(0, 0, 10, 0, 10, 10, 6, 0, 4, 0, 0, 10), false},
		{poly(0, 0, 10, 0, 10, 10, 5, -1, 0, 10), false},
		// Points on a line: sides lie on each other.
		{poly(0, 0, 1, 1, 2, 2), false},
		{poly(0, 0, 2, 2, 1, 1), false},
		{poly(0, 0, 5, 0, 0, 0, 5, 0), false},
		// A way there and back, at a corner and at the end of a spike.
		{poly(0, 0, 10, 0, 10, 10, 10, 0), false},
		{poly(0, 0, 10, 0, 10, 10, 10, 4, 0, 10), false},
		{poly(0, 0, 10, 0, 10, 10, 10, 15, 10, 10, 0, 10), false},
		// Two parts that share a corner.
		{poly(0, 0, 5, 5, 10, 0, 10, 10, 5, 5, 0, 10), false},
		// Crossing sides.
		{poly(0, 0, 10, 10, 10, 0, 0, 10), false},
		{poly(0, 0, 10, 0, 2, 8, 5, -1, 8, 8), false},
		// Twice around.
		{poly(0, 0, 1, 0, 0, 1, 0, 0, 1, 0, 0, 1), false},
		// The greatest coordinates.
		{poly(-most, -most, most, -most, most, most, -most, most), true},
		{poly(-most, -most, most, most, most, -most, -most, most), false},
		{poly(-most, -most, most, most, -most, -most+1), true},
		{poly(-most, -most, most, most, most-1, most-1, -most, most), false},
		{poly(-most, -most, most, most, most-2, most-1, -most, most), true},
		{parabola(api.MaxCorners), true},
	} {
		if got, e := polygon.Simple(c.p); got != c.want || e != api.OK {
			t.Errorf("Simple of %v: %v, %d", c.p, got, e)
		}
	}
}

// P5.2
func TestConvex(t *testing.T) {
	for _, c := range []struct {
		p    api.Polygon
		want bool
	}{
		{poly(0, 0, 1, 0, 0, 1), true},
		{poly(1, 0, 0, 1, 0, 0), true},
		{poly(0, 0, 10, 0, 10, 10, 0, 10), true},
		// Clockwise.
		{poly(0, 0, 0, 1, 1, 0), false},
		{poly(0, 10, 10, 10, 10, 0, 0, 0), false},
		// A corner on the line between its neighbours.
		{poly(0, 0, 5, 0, 10, 0, 10, 10, 0, 10), false},
		{poly(5, 0, 10, 0, 10, 10, 0, 10, 0, 0), false},
		// A dent.
		{poly(0, 0, 10, 0, 10, 10, 5, 5, 0, 10), false},
		{poly(0, 0, 10, 0, 2, 2, 0, 10), false},
		// All turns to the left, but more than once around: a star, and a triangle twice.
		{poly(0, 0, 8, 6, -2, 6, 6, 0, 3, 9), false},
		{poly(0, 0, 1, 0, 0, 1, 0, 0, 1, 0, 0, 1), false},
		{poly(0, 0, 10, 0, 10, 10, 0, 10, 1, 1, 9, 1, 9, 9, 1, 9), false},
		// Points on a line, and there and back.
		{poly(0, 0, 1, 1, 2, 2), false},
		{poly(0, 0, 5, 0, 0, 0, 5, 0), false},
		{poly(0, 0, 10, 10, 10, 0, 0, 10), false},
		// The greatest coordinates.
		{poly(-most, -most, most, -most, most, most, -most, most), true},
		{poly(-most, -most, most, most-1, most, most), true},
		{poly(-most, -most, 0, 0, most, most, 0, 1), false},
		{parabola(api.MaxCorners), true},
		{polygon.Reverse(parabola(api.MaxCorners)), false},
	} {
		if got, e := polygon.Convex(c.p); got != c.want || e != api.OK {
			t.Errorf("Convex of %v: %v, %d", c.p, got, e)
		}
	}
}

// P5.2: by the definitions, wherever a polygon begins.
func TestSimpleAndConvexByDefinition(t *testing.T) {
	for p := range polygons() {
		if got, e := polygon.Simple(p); got != simple(p) || e != api.OK {
			t.Fatalf("Simple of %v: %v, %d", p, got, e)
		}
		if got, e := polygon.Convex(p); got != convex(p) || e != api.OK {
			t.Fatalf("Convex of %v: %v, %d", p, got, e)
		}
	}
}

// P5.2: stars whose turns are all to the left are convex only if they go around once.
func TestConvexOfStars(t *testing.T) {
	circle := poly(100, 0, 87, 50, 50, 87, 0, 100, -50, 87, -87, 50, -100, 0, -87, -50, -50, -87, 0, -100, 50, -87)
	for step := 1; 2*step < len(circle); step++ {
		var star api.Polygon
		for i := range circle {
			star = append(star, circle[i*step%len(circle)])
		}
		if got, e := polygon.Convex(star); got != (step == 1) || e != api.OK {
			t.Errorf("Convex of a star with the step %d: %v, %d", step, got, e)
		}
	}
}

// P5.2
func TestSide(t *testing.T) {
	dented := poly(0, 0, 10, 0, 10, 10, 5, 5, 0, 10)
	comb := poly(0, 0, 12, 0, 12, 4, 10, 4, 10, 2, 8, 2, 8, 4, 6, 4, 6, 2, 4, 2, 4, 4, 0, 4)
	all := poly(-most, -most, most, -most, most, most, -most, most)
	flat := poly(-most, 0, most, 1, most, 2)
	for _, c := range []struct {
		p    api.Polygon
		q    api.Point
		want int
	}{
		{dented, pt(5, 4), 1},
		{dented, pt(5, 5), 0},
		{dented, pt(5, 6), -1},
		{dented, pt(0, 0), 0},
		{dented, pt(0, 10), 0},
		{dented, pt(8, 8), 0},
		// Rays along corners and along sides.
		{dented, pt(1, 5), 1},
		{dented, pt(-1, 5), -1},
		{dented, pt(-1, 10), -1},
		{dented, pt(5, 10), -1},
		{dented, pt(-1, 0), -1},
		{dented, pt(11, 0), -1},
		{comb, pt(1, 2), 1},
		{comb, pt(5, 2), 0},
		{comb, pt(7, 2), 1},
		{comb, pt(5, 3), -1},
		{comb, pt(7, 3), 1},
		{comb, pt(9, 4), -1},
		{comb, pt(-1, 4), -1},
		{comb, pt(-1, 2), -1},
		{polygon.Reverse(comb), pt(7, 3), 1},
		{polygon.Reverse(comb), pt(5, 3), -1},
		{all, pt(0, 0), 1},
		{all, pt(most-1, 1-most), 1},
		{all, pt(most, 0), 0},
		{all, pt(-most, most), 0},
		{flat, pt(most-1, 1), 1},
		{flat, pt(0, 1), 0},
		{flat, pt(-1, 1), -1},
		{flat, pt(most, 1), 0},
	} {
		if got, e := polygon.Side(c.p, c.q); got != c.want || e != api.OK {
			t.Errorf("Side of %v and %v: %d, %d, want %d", c.p, c.q, got, e, c.want)
		}
	}
}

// P5.2 and P5.5: all points near simple polygons; and Pick's theorem for them.
func TestSideAndPick(t *testing.T) {
	for p := range simplePolygons() {
		least, greatest, _ := polygon.Bounds(p)
		var inside, border int64
		for x := least.X - 1; x <= greatest.X+1; x++ {
			for y := least.Y - 1; y <= greatest.Y+1; y++ {
				got, e := polygon.Side(p, pt(x, y))
				if want := where(p, pt(x, y)); got != want || e != api.OK {
					t.Fatalf("Side of %v and %d, %d: %d, %d, want %d", p, x, y, got, e, want)
				}
				switch got {
				case 1:
					inside++
				case 0:
					border++
				}
			}
		}
		if area, _ := polygon.Area2(p); 2*inside+border != max(area, -area)+2 {
			t.Fatalf("%v: %d points inside, %d on sides, the doubled area %d", p, inside, border, area)
		}
	}
}
