package prism_test

import (
	"math"
	"slices"
	"testing"

	"gangsaw/api"
	"gangsaw/prism"
)

const most = api.MaxCoord

func vec(x, y, z int) api.Vec { return api.Vec{X: x, Y: y, Z: z} }

func from(x, y, z, toX, toY, toZ int) api.Box {
	return api.Box{Min: vec(x, y, z), Max: vec(toX, toY, toZ)}
}

// poly returns the polygon whose corners have the coordinates x, y, x, y and so on.
func poly(coordinates ...int) api.Polygon {
	var out api.Polygon
	for c := range slices.Chunk(coordinates, 2) {
		out = append(out, api.Point{X: c[0], Y: c[1]})
	}
	return out
}

func with(lo, hi int, coordinates ...int) api.Prism {
	return api.Prism{Base: poly(coordinates...), Lo: lo, Hi: hi}
}

// wedge is the prism of the chapter's examples.
func wedge() api.Prism { return with(0, 5, 0, 0, 10, 0, 0, 10) }

// space is the greatest valid box.
func space() api.Box { return from(-most, -most, -most, most, most, most) }

// parabola returns a base of n corners.
func parabola(n int) api.Polygon {
	var out api.Polygon
	for x := range n {
		out = append(out, api.Point{X: x, Y: x * x})
	}
	return out
}

// same reports whether two prisms have the same corners in the same order, and the same range.
func same(p, q api.Prism) bool {
	return slices.Equal(p.Base, q.Base) && p.Lo == q.Lo && p.Hi == q.Hi
}

// P8.1
func TestCheckOfValidPrisms(t *testing.T) {
	for _, p := range []api.Prism{
		wedge(),
		with(0, 1, 10, 0, 0, 10, 0, 0),
		with(-5, -4, 0, 0, 1, 0, 1, 1, 0, 1),
		with(-most, most, -most, -most, most, -most, most, most, -most, most),
		with(most-1, most, -most, -most, most, most-1, most, most),
		with(-most, 1-most, 0, 0, 2, 0, 3, 1, 3, 3, 1, 3, 0, 2),
		{Base: parabola(api.MaxCorners), Lo: 3, Hi: 4},
	} {
		if e := prism.Check(p); e != api.OK {
			t.Errorf("Check of %v: %d", p, e)
		}
	}
}

// P8.1
func TestHullAndArea2(t *testing.T) {
	for _, c := range []struct {
		p    api.Prism
		hull api.Box
		area int64
	}{
		{wedge(), from(0, 0, 0, 10, 10, 5), 100},
		{with(-7, 9, 5, -3, 8, 4, 6, 6, -2, 1), from(-2, -3, -7, 8, 6, 9), 87},
		{with(-most, most, -most, -most, most, -most, most, most, -most, most), space(), 8 * most * most},
		{with(0, 1, -most, -most, most, most-1, most, most), from(-most, -most, 0, most, most, 1), 2 * most},
		{api.Prism{Base: parabola(4), Lo: 1, Hi: 2}, from(0, 0, 1, 3, 9, 2), 8},
	} {
		if got, e := prism.Hull(c.p); got != c.hull || e != api.OK {
			t.Errorf("Hull of %v: %v, %d, want %v", c.p, got, e, c.hull)
		}
		if got, e := prism.Area2(c.p); got != c.area || e != api.OK {
			t.Errorf("Area2 of %v: %d, %d, want %d", c.p, got, e, c.area)
		}
	}
}

// turn returns the doubled area of a triangle, which is positive for a turn to the left.
func turn(a, b, c api.Point) int { return (b.X-a.X)*(c.Y-a.Y) - (b.Y-a.Y)*(c.X-a.X) }

// goesAround follows the definition: at each corner the way turns to the left, and the angles add up to one full turn.
func goesAround(base api.Polygon) bool {
	n, sum := len(base), 0.0
	for i, q := range base {
		before, behind := base[(i+n-1)%n], base[(i+1)%n]
		area := turn(before, q, behind)
		if area <= 0 {
			return false
		}
		along := (q.X-before.X)*(behind.X-q.X) + (q.Y-before.Y)*(behind.Y-q.Y)
		sum += math.Atan2(float64(area), float64(along))
	}
	return math.Abs(sum-2*math.Pi) < 0.1
}

// bases calls visit with all lists of n points of a grid.
func bases(n, side int, visit func(base api.Polygon)) {
	base := make(api.Polygon, n)
	var fill func(i int)
	fill = func(i int) {
		if i == n {
			visit(base)
			return
		}
		for at := range side * side {
			base[i] = api.Point{X: at % side, Y: at / side}
			fill(i + 1)
		}
	}
	fill(0)
}

// P8.1: by the definition, for all lists of points of small grids.
func TestCheckByDefinition(t *testing.T) {
	for _, c := range []struct{ corners, side int }{{3, 4}, {4, 3}, {5, 3}, {6, 2}} {
		bases(c.corners, c.side, func(base api.Polygon) {
			want := api.ErrInvalid
			if goesAround(base) {
				want = api.OK
			}
			if e := prism.Check(api.Prism{Base: base, Lo: 0, Hi: 1}); e != want {
				t.Fatalf("Check of the base %v: %d, want %d", base, e, want)
			}
		})
	}
}

// P8.1: stars turn to the left at every corner, but more than once around.
func TestCheckOfStars(t *testing.T) {
	circle := poly(100, 0, 87, 50, 50, 87, 0, 100, -50, 87, -87, 50, -100, 0, -87, -50, -50, -87, 0, -100, 50, -87)
	for step := 1; 2*step < len(circle); step++ {
		var star api.Polygon
		for i := range circle {
			star = append(star, circle[i*step%len(circle)])
		}
		want := api.ErrInvalid
		if step == 1 {
			want = api.OK
		}
		if e := prism.Check(api.Prism{Base: star, Lo: 0, Hi: 1}); e != want {
			t.Errorf("Check of a star with the step %d: %d, want %d", step, e, want)
		}
	}
}
