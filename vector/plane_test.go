package vector_test

import (
	"math"
	"math/big"
	"testing"

	"gangsaw/api"
	"gangsaw/vector"
)

func at(x, y int) api.Point { return api.Point{X: x, Y: y} }

// grid returns all points with coordinates from the list.
func grid(list ...int) []api.Point {
	var out []api.Point
	for _, x := range list {
		for _, y := range list {
			out = append(out, at(x, y))
		}
	}
	return out
}

func bigTurn(a, b, c api.Point) int {
	n := func(x int) *big.Int { return big.NewInt(int64(x)) }
	return times(n(b.X-a.X), n(c.Y-a.Y)).Cmp(times(n(b.Y-a.Y), n(c.X-a.X)))
}

// lies reports whether p is a + (b - a) k / n for a k from 0 to n, n being the greater one of the distances in x and in y.
func lies(a, b, p api.Point) bool {
	x, y := b.X-a.X, b.Y-a.Y
	n := max(x, -x, y, -y)
	if n == 0 {
		return p == a
	}
	for k := range n + 1 {
		if n*(p.X-a.X) == k*x && n*(p.Y-a.Y) == k*y {
			return true
		}
	}
	return false
}

// crosses reports whether a point within each segment is a point within the other one, and no end lies on the other segment.
func crosses(a, b, c, d api.Point) bool {
	return bigTurn(a, b, c)*bigTurn(a, b, d) < 0 && bigTurn(c, d, a)*bigTurn(c, d, b) < 0
}

// meets counts the different ends that lie on the other segment: if there is none, segments have a point in common only where they cross; if there is more than one, they have all points between them in common.
func meets(a, b, c, d api.Point) int {
	ends := map[api.Point]bool{}
	for _, p := range []api.Point{a, b} {
		if lies(c, d, p) {
			ends[p] = true
		}
	}
	for _, p := range []api.Point{c, d} {
		if lies(a, b, p) {
			ends[p] = true
		}
	}
	if len(ends) == 0 && crosses(a, b, c, d) {
		return 1
	}
	return min(len(ends), 2)
}

// P3.4
func TestTurn(t *testing.T) {
	for _, c := range []struct {
		a, b, c api.Point
		want    int
	}{
		{at(0, 0), at(10, 0), at(5, 1), 1},
		{at(0, 0), at(10, 0), at(5, -1), -1},
		{at(0, 0), at(10, 0), at(20, 0), 0},
		{at(0, 0), at(10, 0), at(-20, 0), 0},
		{at(3, 3), at(3, 3), at(5, 7), 0},
		{at(3, 3), at(5, 7), at(3, 3), 0},
		{at(5, 7), at(3, 3), at(3, 3), 0},
		{at(-most, -most), at(most, most), at(most-1, most), 1},
		{at(-most, -most), at(most, most), at(most, most-1), -1},
		{at(-most, -most), at(most, most), at(0, 0), 0},
		{at(-most, most), at(most, most-1), at(0, most), 1},
		{at(-most, -most), at(most, -most), at(most, most), 1},
		{at(-most, -most), at(-most, most), at(most, -most), -1},
	} {
		if got, e := vector.Turn(c.a, c.b, c.c); got != c.want || e != api.OK {
			t.Errorf("Turn of %v, %v, %v: %d, %d, want %d", c.a, c.b, c.c, got, e, c.want)
		}
	}
}

// P3.4 and P3.6: Turn is exact, and changes its sign if two points are exchanged.
func TestTurnByBigIntegers(t *testing.T) {
	points := grid(-most, -most+1, 0, 46341, most)
	for _, a := range points {
		for _, b := range points {
			for _, c := range points {
				got, e := vector.Turn(a, b, c)
				if want := bigTurn(a, b, c); got != want || e != api.OK {
					t.Fatalf("Turn of %v, %v, %v: %d, %d, want %d", a, b, c, got, e, want)
				}
				for _, swapped := range [][3]api.Point{{b, a, c}, {a, c, b}, {c, b, a}} {
					if other, _ := vector.Turn(swapped[0], swapped[1], swapped[2]); other != -got {
						t.Fatalf("Turn of %v: %d, of %v, %v, %v: %d", swapped, other, a, b, c, got)
					}
				}
			}
		}
	}
}

// P3.4
func TestOn(t *testing.T) {
	for _, c := range []struct {
		a, b, p api.Point
		want    bool
	}{
		{at(0, 0), at(10, 0), at(5, 0), true},
		{at(0, 0), at(10, 0), at(11, 0), false},
		{at(0, 0), at(10, 0), at(-1, 0), false},
		{at(0, 0), at(10, 0), at(0, 0), true},
		{at(0, 0), at(10, 0), at(10, 0), true},
		{at(0, 0), at(10, 0), at(5, 1), false},
		{at(0, 0), at(0, 10), at(0, 11), false},
		{at(0, 10), at(0, 0), at(0, 3), true},
		{at(0, 0), at(6, 4), at(3, 2), true},
		{at(0, 0), at(6, 4), at(2, 1), false},
		{at(7, 7), at(7, 7), at(7, 7), true},
		{at(7, 7), at(7, 7), at(7, 8), false},
		{at(-most, -most), at(most, most), at(most-1, most-1), true},
		{at(-most, -most), at(most, most), at(most-1, most), false},
		{at(-most, most), at(most, most-1), at(0, most), false},
		{at(-most, most), at(most, most-2), at(0, most-1), true},
	} {
		if got, e := vector.On(c.a, c.b, c.p); got != c.want || e != api.OK {
			t.Errorf("On of %v, %v, %v: %v, %d", c.a, c.b, c.p, got, e)
		}
	}
}

// P3.4 and P3.6: On, by the points of small segments, and by Meet.
func TestOnSmallSegments(t *testing.T) {
	points := grid(-3, -2, -1, 0, 1, 2, 3)
	for _, a := range points {
		for _, b := range points {
			for _, p := range points {
				got, e := vector.On(a, b, p)
				if got != lies(a, b, p) || e != api.OK {
					t.Fatalf("On of %v, %v, %v: %v, %d", a, b, p, got, e)
				}
				if n, _ := vector.Meet(a, b, p, p); got != (n == 1) || n > 1 {
					t.Fatalf("Meet of %v, %v and %v: %d, but On: %v", a, b, p, n, got)
				}
			}
		}
	}
}

// P3.5
func TestMeet(t *testing.T) {
	for _, c := range []struct {
		a, b, c, d api.Point
		want       int
	}{
		{at(0, 0), at(10, 10), at(0, 10), at(10, 0), 1},
		{at(0, 0), at(10, 0), at(5, 0), at(20, 0), 2},
		{at(0, 0), at(5, 0), at(5, 0), at(9, 0), 1},
		// A common point that is not integer.
		{at(0, 0), at(1, 1), at(0, 1), at(1, 0), 1},
		// An end that touches the other segment within, and one that just fails to.
		{at(0, 0), at(10, 0), at(5, 0), at(5, 5), 1},
		{at(0, 0), at(10, 0), at(5, 1), at(5, 5), 0},
		// A common end, in different directions.
		{at(0, 0), at(10, 0), at(10, 0), at(10, 7), 1},
		// Only the lines meet.
		{at(0, 0), at(10, 0), at(11, -5), at(11, 5), 0},
		{at(0, 0), at(10, 0), at(5, 2), at(20, 1), 0},
		// Parallel, on the same line and on different ones.
		{at(0, 0), at(10, 10), at(1, 0), at(11, 10), 0},
		{at(0, 0), at(4, 4), at(5, 5), at(9, 9), 0},
		{at(0, 0), at(9, 9), at(3, 3), at(4, 4), 2},
		{at(0, 5), at(0, 0), at(0, 4), at(0, 9), 2},
		{at(0, 5), at(0, 0), at(0, 9), at(0, 5), 1},
		{at(0, 9), at(9, 0), at(8, 1), at(4, 5), 2},
		{at(0, 0), at(3, 4), at(3, 4), at(0, 0), 2},
		// Single points.
		{at(4, 4), at(4, 4), at(4, 4), at(4, 4), 1},
		{at(4, 4), at(4, 4), at(4, 5), at(4, 5), 0},
		{at(4, 4), at(4, 4), at(0, 0), at(9, 9), 1},
		{at(4, 4), at(4, 4), at(4, 4), at(9, 9), 1},
		{at(4, 4), at(4, 4), at(5, 5), at(9, 9), 0},
		{at(4, 5), at(4, 5), at(0, 0), at(9, 9), 0},
		// The greatest coordinates.
		{at(-most, -most), at(most, most), at(-most, most), at(most, -most), 1},
		{at(-most, -most), at(most, most), at(-most, 1-most), at(most-1, most), 0},
		{at(-most, -most), at(most, most), at(most-1, most-1), at(most, most), 2},
		{at(-most, 0), at(most, 1), at(-most, 1), at(most, 0), 1},
		{at(-most, 0), at(most, 1), at(0, 1), at(0, most), 0},
	} {
		if got, e := vector.Meet(c.a, c.b, c.c, c.d); got != c.want || e != api.OK {
			t.Errorf("Meet of %v, %v and %v, %v: %d, %d, want %d", c.a, c.b, c.c, c.d, got, e, c.want)
		}
	}
}

// P3.5 and P3.6: Meet of all small segments; the order of the segments and of their ends does not matter.
func TestMeetOfSmallSegments(t *testing.T) {
	points := grid(0, 1, 2, 3)
	for _, a := range points {
		for _, b := range points {
			for _, c := range points {
				for _, d := range points {
					want := meets(a, b, c, d)
					for _, s := range [][4]api.Point{{a, b, c, d}, {b, a, c, d}, {a, b, d, c}, {c, d, a, b}} {
						if got, e := vector.Meet(s[0], s[1], s[2], s[3]); got != want || e != api.OK {
							t.Fatalf("Meet of %v: %d, %d, want %d", s, got, e, want)
						}
					}
				}
			}
		}
	}
}

// P1: a point out of range is refused at every place, with zero results.
func TestPointsOutOfRange(t *testing.T) {
	for _, x := range []int{most + 1, -most - 1, math.MaxInt, math.MinInt} {
		for _, bad := range []api.Point{at(x, 0), at(0, x), at(x, x)} {
			for i := range 4 {
				// The points lie on a line, and the segments meet: without the error no result would be zero.
				p := [4]api.Point{at(0, 0), at(9, 9), at(1, 1), at(0, 5)}
				p[i] = bad
				if n, e := vector.Meet(p[0], p[1], p[2], p[3]); n != 0 || e != api.ErrRange {
					t.Errorf("Meet of %v: %d, %d", p, n, e)
				}
				if i == 3 {
					continue
				}
				if n, e := vector.Turn(p[0], p[1], p[2]); n != 0 || e != api.ErrRange {
					t.Errorf("Turn of %v: %d, %d", p, n, e)
				}
				if on, e := vector.On(p[0], p[1], p[2]); on || e != api.ErrRange {
					t.Errorf("On of %v: %v, %d", p, on, e)
				}
			}
			if n, e := vector.Meet(bad, bad, bad, bad); n != 0 || e != api.ErrRange {
				t.Errorf("Meet of %v with itself: %d, %d", bad, n, e)
			}
			if on, e := vector.On(bad, bad, bad); on || e != api.ErrRange {
				t.Errorf("On of %v with itself: %v, %d", bad, on, e)
			}
		}
	}
}
