package plane_test

import (
	"testing"

	"gangsaw/api"
	"gangsaw/box"
	"gangsaw/plane"
)

// P7.4
func TestHull(t *testing.T) {
	for _, c := range []struct {
		h       api.Half
		b, want api.Box
		code    api.Errno
	}{
		{half(1, 0, 2, 10), from(0, 0, 0, 20, 1, 20), from(0, 0, 0, 8, 1, 4), api.OK},
		{half(1, 0, 2, 10), from(0, 0, 0, 4, 1, 3), from(0, 0, 0, 4, 1, 3), api.OK},
		{half(1, 0, 2, 10), from(7, 0, 0, 20, 1, 20), from(7, 0, 0, 8, 1, 1), api.OK},
		{half(1, 0, 2, 10), from(8, 0, 0, 20, 1, 20), api.Box{}, api.ErrNone},
		{half(1, 0, 2, 10), from(0, 0, 4, 20, 1, 20), api.Box{}, api.ErrNone},
		{half(1, 0, 2, 10), from(-5, -9, -5, 20, 9, 20), from(-5, -9, -5, 18, 9, 7), api.OK},
		// Cells count, not points: the first box has points in the half-space only.
		{half(2, 0, 0, 1), from(0, 0, 0, 9, 9, 9), api.Box{}, api.ErrNone},
		{half(2, 0, 0, 2), from(0, 0, 0, 9, 9, 9), from(0, 0, 0, 1, 9, 9), api.OK},
		{half(2, 0, 0, 5), from(0, 0, 0, 9, 9, 9), from(0, 0, 0, 2, 9, 9), api.OK},
		{half(-2, 0, 0, -15), from(0, 0, 0, 9, 9, 9), from(8, 0, 0, 9, 9, 9), api.OK},
		{half(-2, 0, 0, -17), from(0, 0, 0, 9, 9, 9), api.Box{}, api.ErrNone},
		{half(0, -3, 0, -7), from(0, 0, 0, 9, 9, 9), from(0, 3, 0, 9, 9, 9), api.OK},
		{half(0, -3, 0, 7), from(0, -9, 0, 9, 9, 9), from(0, -2, 0, 9, 9, 9), api.OK},
		{half(1, -1, 1, -5), from(0, 0, 0, 9, 9, 9), from(0, 7, 0, 2, 9, 2), api.OK},
		{half(1, 1, 1, 3), from(0, 0, 0, 9, 9, 9), from(0, 0, 0, 1, 1, 1), api.OK},
		{half(1, 1, 1, 2), from(0, 0, 0, 9, 9, 9), api.Box{}, api.ErrNone},
		{half(1, 0, 0, far), space(), space(), api.OK},
		{half(1, 0, 0, -far), space(), api.Box{}, api.ErrNone},
		{half(1000, 1000, 1000, 3000*(1-most)), space(), from(-most, -most, -most, 1-most, 1-most, 1-most), api.OK},
		{half(1000, 1000, 1000, 3000*(1-most)-1), space(), api.Box{}, api.ErrNone},
		{half(1000, -1000, 1, far), space(), space(), api.OK},
		{half(1000, -1000, 1000, 0), space(), space(), api.OK},
		{half(1000, 1000, 0, -1000*most), space(), from(-most, -most, -most, -1, -1, most), api.OK},
	} {
		if got, e := plane.Hull(c.h, c.b); got != c.want || e != c.code {
			t.Errorf("Hull of %v in %v: %v, %d, want %v, %d", c.h, c.b, got, e, c.want, c.code)
		}
	}
}

// hull follows the definition; without cells it is no valid box.
func hull(h api.Half, b api.Box) api.Box {
	var out api.Box
	for z := b.Min.Z; z < b.Max.Z; z++ {
		for y := b.Min.Y; y < b.Max.Y; y++ {
			for x := b.Min.X; x < b.Max.X; x++ {
				cell := from(x, y, z, x+1, y+1, z+1)
				switch {
				case !lies(h, cell):
				case out == api.Box{}:
					out = cell
				default:
					out, _ = box.Hull(out, cell)
				}
			}
		}
	}
	return out
}

// P7.4 and P7.5: by the cells, for many small half-spaces and boxes; a box that lies in a half-space is its own hull.
func TestHullByCells(t *testing.T) {
	list := []api.Box{from(-2, -2, -2, 2, 2, 2), from(0, 1, -3, 4, 3, 1), from(-1, 0, 2, 0, 3, 3)}
	for h := range halves(3, 9) {
		for _, b := range list {
			want, code := hull(h, b), api.OK
			if want == (api.Box{}) {
				code = api.ErrNone
			}
			got, e := plane.Hull(h, b)
			if got != want || e != code {
				t.Fatalf("Hull of %v in %v: %v, %d, want %v, %d", h, b, got, e, want, code)
			}
			if lies(h, b) && got != b {
				t.Fatalf("Hull of %v in %v, which lies in it: %v", h, b, got)
			}
		}
	}
}

// P7.4
func TestDepth(t *testing.T) {
	h, b := half(1, 0, 2, 10), from(0, 0, 0, 4, 1, 3)
	slanted, small := half(3, -2, 0, 20), from(0, 0, 0, 2, 2, 2)
	top := from(most-1, most-1, most-1, most, most, most)
	for _, c := range []struct {
		h               api.Half
		b               api.Box
		direction, most int
		want            int
	}{
		{h, b, api.PlusX, 100, 0},
		{h, b, api.MinusX, 100, 100},
		{h, b, api.PlusY, 100, 100},
		{h, b, api.MinusY, 100, 100},
		{h, b, api.PlusZ, 100, 0},
		{h, b, api.MinusZ, 100, 100},
		// The greatest value is 6 - 20.
		{slanted, small, api.PlusX, 100, 4},
		{slanted, small, api.PlusX, 4, 4},
		{slanted, small, api.PlusX, 3, 3},
		{slanted, small, api.PlusX, 0, 0},
		{slanted, small, api.MinusX, 100, 100},
		{slanted, small, api.PlusY, 100, 100},
		{slanted, small, api.MinusY, 100, 7},
		{slanted, small, api.PlusZ, 100, 100},
		{slanted, small, api.MinusZ, 100, 100},
		{slanted, small, api.MinusZ, 0, 0},
		// The moved box leaves the range.
		{half(1, 0, 0, far), top, api.PlusX, most, most},
		{half(0, 0, 1, most), top, api.PlusX, most, most},
		{half(0, 0, 1, most), top, api.PlusZ, most, 0},
		{half(0, 0, 1, most+5), top, api.PlusZ, most, 5},
		{half(0, 0, 1000, far), top, api.PlusZ, most, most},
		{half(0, 0, 1000, 2000*most-1), top, api.PlusZ, most, most - 1},
		{half(0, 0, 1000, 2000*most), top, api.PlusZ, most, most},
		{half(-1000, -1000, -1000, far), top, api.MinusY, most, most},
	} {
		if got, e := plane.Depth(c.h, c.b, c.direction, c.most); got != c.want || e != api.OK {
			t.Errorf("Depth of %v and %v in the direction %d up to %d: %d, %d, want %d", c.h, c.b, c.direction, c.most, got, e, c.want)
		}
	}
}

// steps moves a box as far as it stays in a half-space.
func steps(h api.Half, b api.Box, direction, most int) int {
	ways := []api.Vec{vec(1, 0, 0), vec(-1, 0, 0), vec(0, 1, 0), vec(0, -1, 0), vec(0, 0, 1), vec(0, 0, -1)}
	for t := range most {
		b, _ = box.Move(b, ways[direction])
		if !lies(h, b) {
			return t
		}
	}
	return most
}

// P7.4: step by step, for many small half-spaces and boxes, with and without a near end.
func TestDepthByWay(t *testing.T) {
	list := []api.Box{from(0, 0, 0, 1, 1, 1), from(-2, 0, 1, 0, 3, 2)}
	for h := range halves(2, 7) {
		for _, b := range list {
			for direction := api.PlusX; direction <= api.MinusZ; direction++ {
				for _, end := range []int{0, 2, 12} {
					got, e := plane.Depth(h, b, direction, end)
					if !lies(h, b) {
						if got != 0 || e != api.ErrState {
							t.Fatalf("Depth of %v and %v: %d, %d", h, b, got, e)
						}
						continue
					}
					if want := steps(h, b, direction, end); got != want || e != api.OK {
						t.Fatalf("Depth of %v and %v in the direction %d up to %d: %d, %d, want %d", h, b, direction, end, got, e, want)
					}
				}
			}
		}
	}
}
