package plane_test

import (
	"iter"
	"math/big"
	"testing"

	"gangsaw/api"
	"gangsaw/plane"
)

const (
	most = api.MaxCoord
	far  = 4000000000 // the greatest D
)

func vec(x, y, z int) api.Vec { return api.Vec{X: x, Y: y, Z: z} }

func from(x, y, z, toX, toY, toZ int) api.Box {
	return api.Box{Min: vec(x, y, z), Max: vec(toX, toY, toZ)}
}

func half(a, b, c int, d int64) api.Half { return api.Half{A: a, B: b, C: c, D: d} }

// space is the greatest valid box.
func space() api.Box { return from(-most, -most, -most, most, most, most) }

// cube produces all points with coordinates from lo to hi.
func cube(lo, hi int) iter.Seq[api.Vec] {
	return func(yield func(api.Vec) bool) {
		for z := lo; z <= hi; z++ {
			for y := lo; y <= hi; y++ {
				for x := lo; x <= hi; x++ {
					if !yield(vec(x, y, z)) {
						return
					}
				}
			}
		}
	}
}

// halves produces all valid half-spaces with small numbers.
func halves(coefficient int, bound int64) iter.Seq[api.Half] {
	return func(yield func(api.Half) bool) {
		for v := range cube(-coefficient, coefficient) {
			for d := -bound; d <= bound; d++ {
				if v != (api.Vec{}) && !yield(half(v.X, v.Y, v.Z, d)) {
					return
				}
			}
		}
	}
}

// boxes returns boxes of many shapes with coordinates from -2 to 3.
func boxes() []api.Box {
	var out []api.Box
	for p := range cube(-2, 1) {
		for size := range cube(1, 2) {
			out = append(out, from(p.X, p.Y, p.Z, p.X+size.X, p.Y+size.Y, p.Z+size.Z))
		}
	}
	return append(out, from(-2, -2, -2, 3, 3, 3), from(0, -1, -2, 3, 1, -1), from(-2, 0, 0, -1, 3, 3))
}

// corners returns the eight corners of a box.
func corners(b api.Box) []api.Vec {
	var out []api.Vec
	for _, z := range []int{b.Min.Z, b.Max.Z} {
		for _, y := range []int{b.Min.Y, b.Max.Y} {
			for _, x := range []int{b.Min.X, b.Max.X} {
				out = append(out, vec(x, y, z))
			}
		}
	}
	return out
}

// bigValue follows the definition, with integers of any size.
func bigValue(h api.Half, p api.Vec) *big.Int {
	times := func(a, b int) *big.Int { return new(big.Int).Mul(big.NewInt(int64(a)), big.NewInt(int64(b))) }
	sum := new(big.Int).Neg(big.NewInt(h.D))
	for _, part := range []*big.Int{times(h.A, p.X), times(h.B, p.Y), times(h.C, p.Z)} {
		sum.Add(sum, part)
	}
	return sum
}

// value follows the definition.
func value(h api.Half, p api.Vec) int64 {
	return int64(h.A)*int64(p.X) + int64(h.B)*int64(p.Y) + int64(h.C)*int64(p.Z) - h.D
}

// extremes follows the definition.
func extremes(h api.Half, b api.Box) (least, greatest int64) {
	for i, p := range corners(b) {
		v := value(h, p)
		if i == 0 {
			least, greatest = v, v
		}
		least, greatest = min(least, v), max(greatest, v)
	}
	return least, greatest
}

// lies reports whether a box lies in a half-space.
func lies(h api.Half, b api.Box) bool {
	_, greatest := extremes(h, b)
	return greatest <= 0
}

// P7.1
func TestCheck(t *testing.T) {
	for _, c := range []struct {
		h    api.Half
		want api.Errno
	}{
		{half(1, 0, 2, 10), api.OK},
		{half(0, 0, -1, 0), api.OK},
		{half(1000, -1000, 1000, far), api.OK},
		{half(-1000, 1000, -1000, -far), api.OK},
		{half(0, 1, 0, -far), api.OK},
		{half(1001, 0, 0, 0), api.ErrRange},
		{half(-1001, 0, 0, 0), api.ErrRange},
		{half(0, 1001, 0, 0), api.ErrRange},
		{half(0, -1001, 0, 0), api.ErrRange},
		{half(0, 0, 1001, 0), api.ErrRange},
		{half(0, 0, -1001, 0), api.ErrRange},
		{half(1, 0, 0, far+1), api.ErrRange},
		{half(1, 0, 0, -far-1), api.ErrRange},
		{half(0, 0, 0, far+1), api.ErrRange},
		{half(0, 0, 0, -far-1), api.ErrRange},
		{half(0, 0, 0, 0), api.ErrInvalid},
		{half(0, 0, 0, 5), api.ErrInvalid},
		{half(0, 0, 0, -far), api.ErrInvalid},
	} {
		if e := plane.Check(c.h); e != c.want {
			t.Errorf("Check of %v: %d, want %d", c.h, e, c.want)
		}
	}
}

// P7.1
func TestValue(t *testing.T) {
	for _, c := range []struct {
		h    api.Half
		p    api.Vec
		want int64
	}{
		{half(1, 0, 2, 10), vec(0, 0, 0), -10},
		{half(1, 0, 2, 10), vec(4, 1, 3), 0},
		{half(1, 0, 2, 10), vec(5, 1, 3), 1},
		{half(2, -3, 5, -7), vec(10, 100, 1000), 4727},
		{half(1000, 1000, 1000, -far), vec(most, most, most), 7000000000},
		{half(1000, -1000, 1000, far), vec(-most, most, -most), -7000000000},
		{half(-1000, 999, 1, 1), vec(-most, most, most), 1999999999},
	} {
		if got, e := plane.Value(c.h, c.p); got != c.want || e != api.OK {
			t.Errorf("Value of %v at %v: %d, %d, want %d", c.h, c.p, got, e, c.want)
		}
	}
}

// P7.1: by big integers, up to the greatest numbers.
func TestValueByBigIntegers(t *testing.T) {
	for _, d := range []int64{-far, -1, 0, 1, far} {
		for _, n := range []int{1, 7, 1000} {
			for v := range cube(-1, 1) {
				h := half(v.X*n, v.Y*n, v.Z, d)
				if v == (api.Vec{}) {
					continue
				}
				for q := range cube(-1, 1) {
					p := vec(q.X*most, q.Y*(most-1), q.Z*most)
					if got, e := plane.Value(h, p); bigValue(h, p).Cmp(big.NewInt(got)) != 0 || e != api.OK {
						t.Fatalf("Value of %v at %v: %d, %d", h, p, got, e)
					}
				}
			}
		}
	}
}

// P7.2
func TestExtremesAndSide(t *testing.T) {
	h := half(1, 0, 2, 10)
	for _, c := range []struct {
		h               api.Half
		b               api.Box
		least, greatest int64
		side            int
	}{
		{h, from(0, 0, 0, 4, 1, 3), -10, 0, plane.Inside},
		{h, from(0, 0, 0, 5, 1, 3), -10, 1, plane.Across},
		{h, from(10, 0, 0, 11, 1, 1), 0, 3, plane.Outside},
		{h, from(9, 0, 0, 11, 1, 1), -1, 3, plane.Across},
		{h, from(20, -9, 3, 21, 9, 4), 16, 19, plane.Outside},
		{h, from(-20, -9, 3, -19, 9, 4), -24, -21, plane.Inside},
		// Each side of a box may touch the plane.
		{half(0, 1, 0, 5), from(0, 0, 0, 9, 5, 9), -5, 0, plane.Inside},
		{half(0, 1, 0, 5), from(0, 5, 0, 9, 6, 9), 0, 1, plane.Outside},
		{half(0, -1, 0, -5), from(0, 5, 0, 9, 6, 9), -1, 0, plane.Inside},
		{half(0, -1, 0, -5), from(0, 0, 0, 9, 5, 9), 0, 5, plane.Outside},
		{half(0, 0, -2, 3), from(0, 0, -2, 1, 1, -1), -1, 1, plane.Across},
		{half(1000, 1000, 1000, -far), space(), far - 3000*most, far + 3000*most, plane.Outside},
		{half(1000, -1000, 1000, 3000*most), space(), -6000 * most, 0, plane.Inside},
		{half(1000, -1000, 1000, 3000*most-1), space(), 1 - 6000*most, 1, plane.Across},
		{half(1, 0, 0, far), space(), -far - most, most - far, plane.Inside},
	} {
		least, greatest, e := plane.Extremes(c.h, c.b)
		if least != c.least || greatest != c.greatest || e != api.OK {
			t.Errorf("Extremes of %v and %v: %d, %d, %d, want %d, %d", c.h, c.b, least, greatest, e, c.least, c.greatest)
		}
		if side, e := plane.Side(c.h, c.b); side != c.side || e != api.OK {
			t.Errorf("Side of %v and %v: %d, %d, want %d", c.h, c.b, side, e, c.side)
		}
	}
}

// position follows the definition.
func position(h api.Half, b api.Box) int {
	inside, outside := true, true
	for _, p := range corners(b) {
		inside = inside && value(h, p) <= 0
		outside = outside && value(h, p) >= 0
	}
	switch {
	case inside:
		return plane.Inside
	case outside:
		return plane.Outside
	}
	return plane.Across
}

// P7.2 and P7.5: by the corners, for many small half-spaces and boxes; a box lies in a half-space exactly if its greatest value is at most 0.
func TestExtremesAndSideByCorners(t *testing.T) {
	for h := range halves(2, 6) {
		for _, b := range boxes() {
			wantLeast, wantGreatest := extremes(h, b)
			least, greatest, e := plane.Extremes(h, b)
			if least != wantLeast || greatest != wantGreatest || e != api.OK {
				t.Fatalf("Extremes of %v and %v: %d, %d, %d, want %d, %d", h, b, least, greatest, e, wantLeast, wantGreatest)
			}
			side, e := plane.Side(h, b)
			if side != position(h, b) || e != api.OK || (side == plane.Inside) != (greatest <= 0) {
				t.Fatalf("Side of %v and %v: %d, %d", h, b, side, e)
			}
		}
	}
}

// P7.5: a box within one that is not Across has the same position.
func TestSideOfSmallerBoxes(t *testing.T) {
	outer := from(-2, -2, -2, 3, 3, 3)
	for h := range halves(2, 20) {
		side, _ := plane.Side(h, outer)
		if side == plane.Across {
			continue
		}
		for _, b := range boxes() {
			if got, e := plane.Side(h, b); got != side || e != api.OK {
				t.Fatalf("Side of %v and %v: %d, %d, but %d of %v", h, b, got, e, side, outer)
			}
		}
	}
}
