package prism_test

import (
	"math/big"
	"testing"

	"gangsaw/api"
	"gangsaw/polygon"
)

// rational is a point of a plane with any coordinates.
type rational struct{ x, y *big.Rat }

func rationals(p api.Polygon) []rational {
	var out []rational
	for _, q := range p {
		out = append(out, rational{big.NewRat(int64(q.X), 1), big.NewRat(int64(q.Y), 1)})
	}
	return out
}

func minus(a, b *big.Rat) *big.Rat { return new(big.Rat).Sub(a, b) }

func times(a, b *big.Rat) *big.Rat { return new(big.Rat).Mul(a, b) }

// area returns the doubled area of a triangle.
func area(a, b, c rational) *big.Rat {
	return minus(times(minus(b.x, a.x), minus(c.y, a.y)), times(minus(b.y, a.y), minus(c.x, a.x)))
}

// cut returns the part of a convex polygon on the left of the line from a to b.
func cut(list []rational, a, b rational) []rational {
	var out []rational
	for i, q := range list {
		next := list[(i+1)%len(list)]
		here, there := area(a, b, q), area(a, b, next)
		if here.Sign() >= 0 {
			out = append(out, q)
		}
		if here.Sign()*there.Sign() < 0 {
			share := new(big.Rat).Quo(here, minus(here, there))
			between := func(from, to *big.Rat) *big.Rat {
				return new(big.Rat).Add(from, times(share, minus(to, from)))
			}
			out = append(out, rational{between(q.x, next.x), between(q.y, next.y)})
		}
	}
	return out
}

// commonArea returns the doubled area of the common part of two convex bases.
func commonArea(p, q api.Polygon) *big.Rat {
	part, edges := rationals(p), rationals(q)
	for i := range edges {
		part = cut(part, edges[i], edges[(i+1)%len(edges)])
	}
	sum := new(big.Rat)
	for i := 2; i < len(part); i++ {
		sum.Add(sum, area(part[0], part[i-1], part[i]))
	}
	return sum
}

// holds reports whether a convex base contains another one: then the common part is the other one.
func holds(outer, inner api.Polygon) bool {
	return commonArea(outer, inner).Cmp(commonArea(inner, inner)) == 0
}

// rectangle returns the corners of a box in x and y.
func rectangle(b api.Box) api.Polygon {
	return poly(b.Min.X, b.Min.Y, b.Max.X, b.Min.Y, b.Max.X, b.Max.Y, b.Min.X, b.Max.Y)
}

// convexBases returns all convex bases of three and four corners on a grid, from different corners on.
func convexBases(side int) []api.Polygon {
	var out []api.Polygon
	points := side * side
	at := func(i int) api.Point { return api.Point{X: i % side, Y: i / side} }
	for i := range points {
		for k := range i {
			for m := range k {
				for n := range m + 1 {
					// With n for m, this is a triangle.
					list := api.Polygon{at(i), at(k), at(m), at(n)}
					corners := 4
					if n == m {
						corners = 3
					}
					if h, e := polygon.Hull(list); e == api.OK && len(h) == corners {
						from := len(out) % len(h)
						out = append(out, append(h[from:len(h):len(h)], h[:from]...))
					}
				}
			}
		}
	}
	return out
}

// smallBoxes returns boxes around the grids of the bases, with some ranges of z.
func smallBoxes() []api.Box {
	var out []api.Box
	heights := [][2]int{{0, 3}, {1, 2}, {-1, 1}, {2, 4}, {-1, 4}, {3, 4}, {-1, 0}}
	for x := -1; x < 4; x++ {
		for y := -1; y < 4; y++ {
			for size := range 9 {
				z := heights[len(out)%len(heights)]
				out = append(out, from(x, y, z[0], x+1+size%3, y+1+size/3, z[1]))
			}
		}
	}
	return out
}

// The measures of the tests themselves.
func TestCommonArea(t *testing.T) {
	square := poly(0, 0, 2, 0, 2, 2, 0, 2)
	for _, c := range []struct {
		p    api.Polygon
		want *big.Rat
	}{
		{square, big.NewRat(8, 1)},
		{poly(1, 1, 3, 1, 3, 3, 1, 3), big.NewRat(2, 1)},
		{poly(2, 0, 4, 0, 4, 2), big.NewRat(0, 1)},
		{poly(0, 0, 3, 0, 0, 3), big.NewRat(7, 1)},
		{poly(0, 0, 6, 2, 0, 2), big.NewRat(20, 3)},
	} {
		if got := commonArea(square, c.p); got.Cmp(c.want) != 0 {
			t.Errorf("the square and %v: %v, want %v", c.p, got, c.want)
		}
		if got := commonArea(c.p, square); got.Cmp(c.want) != 0 {
			t.Errorf("%v and the square: %v, want %v", c.p, got, c.want)
		}
	}
}
