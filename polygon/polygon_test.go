package polygon_test

import (
	"math/big"
	"slices"
	"testing"

	"gangsaw/api"
	"gangsaw/polygon"
)

const most = api.MaxCoord

func pt(x, y int) api.Point { return api.Point{X: x, Y: y} }

// poly returns the polygon whose corners have these coordinates, x and y by turns.
func poly(list ...int) api.Polygon {
	var p api.Polygon
	for pair := range slices.Chunk(list, 2) {
		p = append(p, pt(pair[0], pair[1]))
	}
	return p
}

// parabola returns n points of which none lies between others, from the least one on and counterclockwise.
func parabola(n int) api.Polygon {
	var p api.Polygon
	for i := range n {
		x := i - n/2
		p = append(p, pt(x, x*x))
	}
	return p
}

// The numbered examples of the document.
func TestExamples(t *testing.T) {
	square := poly(0, 0, 10, 0, 10, 10, 0, 10)
	if n, e := polygon.Area2(square); n != 200 || e != api.OK {
		t.Errorf("Area2 of the square: %d, %d", n, e)
	}
	if is, e := polygon.Convex(square); !is || e != api.OK {
		t.Errorf("Convex of the square: %v, %d", is, e)
	}
	for q, want := range map[api.Point]int{pt(5, 5): 1, pt(10, 5): 0, pt(11, 5): -1} {
		if n, e := polygon.Side(square, q); n != want || e != api.OK {
			t.Errorf("Side of the square and %v: %d, %d, want %d", q, n, e, want)
		}
	}
	tie := poly(0, 0, 10, 10, 10, 0, 0, 10)
	if is, e := polygon.Simple(tie); is || e != api.OK {
		t.Errorf("Simple of the bow tie: %v, %d", is, e)
	}
	if n, e := polygon.Area2(tie); n != 0 || e != api.OK {
		t.Errorf("Area2 of the bow tie: %d, %d", n, e)
	}
	if p, e := polygon.Hull(poly(0, 0, 4, 0, 2, 0, 2, 1, 2, 5)); !slices.Equal(p, poly(0, 0, 4, 0, 2, 5)) || e != api.OK {
		t.Errorf("Hull: %v, %d", p, e)
	}
	if p, e := polygon.Hull(poly(0, 0, 1, 1, 2, 2)); len(p) != 0 || e != api.ErrNone {
		t.Errorf("Hull of points on a line: %v, %d", p, e)
	}
	if p, e := polygon.Canonical(poly(10, 10, 10, 0, 0, 0, 0, 10)); !slices.Equal(p, square) || e != api.OK {
		t.Errorf("Canonical: %v, %d", p, e)
	}
}

// P5.1
func TestOrient(t *testing.T) {
	for _, c := range []struct {
		a, b, c api.Point
		want    int
	}{
		{pt(0, 0), pt(10, 0), pt(5, 1), 1},
		{pt(0, 0), pt(10, 0), pt(5, -1), -1},
		{pt(0, 0), pt(10, 0), pt(20, 0), 0},
		{pt(0, 0), pt(10, 0), pt(-20, 0), 0},
		{pt(10, 0), pt(0, 0), pt(5, 1), -1},
		{pt(3, 3), pt(3, 3), pt(5, 7), 0},
		{pt(3, 3), pt(5, 7), pt(3, 3), 0},
		{pt(-most, -most), pt(most, most), pt(most-1, most), 1},
		{pt(-most, -most), pt(most, most), pt(most, most-1), -1},
		{pt(-most, most), pt(most, most-1), pt(0, most), 1},
		{pt(-most, -most), pt(most, -most), pt(most, most), 1},
		{pt(most, most), pt(most, -most), pt(-most, most), -1},
	} {
		if got := polygon.Orient(c.a, c.b, c.c); got != c.want {
			t.Errorf("Orient of %v, %v, %v: %d, want %d", c.a, c.b, c.c, got, c.want)
		}
	}
}

// P5.1: Orient is exact.
func TestOrientByBigIntegers(t *testing.T) {
	var points []api.Point
	for _, x := range []int{-most, -most + 1, -3, 0, 46341, most} {
		for _, y := range []int{-most, 0, 7, most - 1, most} {
			points = append(points, pt(x, y))
		}
	}
	times := func(x, y int) *big.Int { return new(big.Int).Mul(big.NewInt(int64(x)), big.NewInt(int64(y))) }
	for _, a := range points {
		for _, b := range points {
			for _, c := range points {
				want := times(b.X-a.X, c.Y-a.Y).Cmp(times(b.Y-a.Y, c.X-a.X))
				if got := polygon.Orient(a, b, c); got != want {
					t.Fatalf("Orient of %v, %v, %v: %d, want %d", a, b, c, got, want)
				}
			}
		}
	}
}

// P5.1: what is valid, although it may be anything but simple.
func TestCheck(t *testing.T) {
	for _, p := range []api.Polygon{
		poly(0, 0, 1, 0, 0, 1),
		poly(0, 0, 1, 1, 2, 2),
		poly(0, 0, 5, 5, 0, 0, 5, 5),
		poly(0, 0, 10, 10, 10, 0, 0, 10),
		poly(-most, -most, most, -most, most, most, -most, most),
		parabola(api.MaxCorners),
	} {
		if e := polygon.Check(p); e != api.OK {
			t.Errorf("Check of %v: %d", p, e)
		}
	}
}

// P5.1
func TestArea2(t *testing.T) {
	for _, c := range []struct {
		p    api.Polygon
		want int64
	}{
		{poly(0, 0, 1, 0, 0, 1), 1},
		{poly(0, 0, 0, 1, 1, 0), -1},
		{poly(7, -3, 11, -3, 11, 2, 7, 2), 40},
		{poly(7, 2, 11, 2, 11, -3, 7, -3), -40},
		{poly(0, 0, 4, 0, 4, 4, 2, 1, 0, 4), 20},
		{poly(0, 0, 3, 3, 6, 6), 0},
		// A part that is surrounded twice counts twice.
		{poly(0, 0, 2, 0, 2, 2, 0, 2, 0, 0, 2, 0, 2, 2, 0, 2), 16},
		{poly(-most, -most, most, -most, most, most, -most, most), 8000000000000},
		{poly(-most, most, most, most, most, -most, -most, -most), -8000000000000},
	} {
		if got, e := polygon.Area2(c.p); got != c.want || e != api.OK {
			t.Errorf("Area2 of %v: %d, %d, want %d", c.p, got, e, c.want)
		}
	}
}

// P5.1: many great products add up exactly.
func TestArea2OfManyRounds(t *testing.T) {
	var p api.Polygon
	for range api.MaxCorners / 4 {
		p = append(p, poly(-most, -most, most, -most, most, most, -most, most)...)
	}
	if got, e := polygon.Area2(p); got != 16*8000000000000 || e != api.OK {
		t.Errorf("Area2 of 16 rounds: %d, %d", got, e)
	}
}

// P5.1: Reverse takes any polygon, also one that is not valid.
func TestReverse(t *testing.T) {
	for _, c := range []struct{ p, want api.Polygon }{
		{nil, nil},
		{api.Polygon{}, nil},
		{poly(1, 2), poly(1, 2)},
		{poly(1, 2, 3, 4), poly(3, 4, 1, 2)},
		{poly(0, 0, 1, 0, 0, 1), poly(0, 1, 1, 0, 0, 0)},
		{poly(0, 0, 0, 0, 1, 1, 2*most, -7), poly(2*most, -7, 1, 1, 0, 0, 0, 0)},
	} {
		if got := polygon.Reverse(c.p); !slices.Equal(got, c.want) {
			t.Errorf("Reverse of %v: %v, want %v", c.p, got, c.want)
		}
	}
	long := parabola(api.MaxCorners + 1)
	got := polygon.Reverse(long)
	slices.Reverse(got)
	if !slices.Equal(got, long) {
		t.Errorf("Reverse of many corners: %v", got)
	}
}

// P5.1
func TestBounds(t *testing.T) {
	for _, c := range []struct {
		p               api.Polygon
		least, greatest api.Point
	}{
		{poly(0, 0, 10, 0, 10, 10, 0, 10), pt(0, 0), pt(10, 10)},
		{poly(5, 9, -3, 4, 7, -2), pt(-3, -2), pt(7, 9)},
		{poly(7, -2, 5, 9, -3, 4), pt(-3, -2), pt(7, 9)},
		{poly(3, 1, 4, 1, 5, 1), pt(3, 1), pt(5, 1)},
		{poly(-5, -1, -5, -9, -5, -4), pt(-5, -9), pt(-5, -1)},
		{poly(most, 0, 0, most, -most, -most), pt(-most, -most), pt(most, most)},
	} {
		least, greatest, e := polygon.Bounds(c.p)
		if least != c.least || greatest != c.greatest || e != api.OK {
			t.Errorf("Bounds of %v: %v, %v, %d, want %v, %v", c.p, least, greatest, e, c.least, c.greatest)
		}
	}
}

// The Rules: arguments are not modified, and results share no memory with them.
func TestPolygonsAreLeftAlone(t *testing.T) {
	for _, p := range []api.Polygon{
		poly(10, 10, 10, 0, 0, 0, 0, 10),
		poly(0, 0, 10, 0, 10, 10, 0, 10),
		poly(5, 5, 0, 9, -7, 3),
	} {
		kept := slices.Clone(p)
		canonical, _ := polygon.Canonical(p)
		hull, _ := polygon.Hull(p)
		reversed := polygon.Reverse(p)
		polygon.Check(p)
		polygon.Area2(p)
		polygon.Simple(p)
		polygon.Convex(p)
		polygon.Side(p, pt(1, 1))
		polygon.Bounds(p)
		if !slices.Equal(p, kept) {
			t.Errorf("%v became %v", kept, p)
		}
		results := []api.Polygon{canonical, hull, reversed}
		before := [][]api.Point{slices.Clone(canonical), slices.Clone(hull), slices.Clone(reversed)}
		clear(p)
		for i, r := range results {
			if !slices.Equal(r, before[i]) {
				t.Errorf("the result %d of %v shares memory with it", i, kept)
			}
		}
	}
}
