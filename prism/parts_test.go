package prism_test

import (
	"math"
	"slices"
	"testing"

	"gangsaw/api"
	"gangsaw/box"
	"gangsaw/prism"
)

// P8.4
func TestOf(t *testing.T) {
	for _, c := range []struct {
		b    api.Box
		want api.Prism
	}{
		{from(1, 2, 3, 4, 6, 8), with(3, 8, 1, 2, 4, 2, 4, 6, 1, 6)},
		{from(-4, -6, -8, -1, -2, -3), with(-8, -3, -4, -6, -1, -6, -1, -2, -4, -2)},
		{space(), with(-most, most, -most, -most, most, -most, most, most, -most, most)},
		{from(most-1, -most, 0, most, 1-most, 1), with(0, 1, most-1, -most, most, -most, most, 1-most, most-1, 1-most)},
	} {
		got, e := prism.Of(c.b)
		if !same(got, c.want) || e != api.OK {
			t.Errorf("Of of %v: %v, %d, want %v", c.b, got, e, c.want)
		}
		if e := prism.Check(got); e != api.OK {
			t.Errorf("Check of %v: %d", got, e)
		}
		if hull, _ := prism.Hull(got); hull != c.b {
			t.Errorf("Hull of %v: %v, want %v", got, hull, c.b)
		}
	}
}

// P8.4
func TestMove(t *testing.T) {
	edge := with(most-5, most, -most, 0, 0, -most, most, most)
	for _, c := range []struct {
		p    api.Prism
		by   api.Vec
		want api.Prism
	}{
		{wedge(), vec(0, 0, 0), wedge()},
		{wedge(), vec(3, -20, 7), with(7, 12, 3, -20, 13, -20, 3, -10)},
		// The base begins with the same corner.
		{with(1, 2, 5, 5, 0, 5, 0, 0), vec(-5, -5, -5), with(-4, -3, 0, 0, -5, 0, -5, -5)},
		{wedge(), vec(most-10, most-10, most-5), with(most-5, most, most-10, most-10, most, most-10, most-10, most)},
		{wedge(), vec(-most, -most, -most), with(-most, 5-most, -most, -most, 10-most, -most, -most, 10-most)},
		{with(-most, 0, -most, 0, 0, -most, 0, 0), vec(most, most, most), with(0, most, 0, most, most, 0, most, most)},
		{edge, vec(0, 0, -most), with(-5, 0, -most, 0, 0, -most, most, most)},
	} {
		if got, e := prism.Move(c.p, c.by); !same(got, c.want) || e != api.OK {
			t.Errorf("Move of %v by %v: %v, %d, want %v", c.p, c.by, got, e, c.want)
		}
	}
}

// P8.4: no coordinate of the way, nor of the moved prism, may leave the range.
func TestMoveOutOfRange(t *testing.T) {
	low := with(-most, 1-most, -most, -most, 1-most, -most, -most, 1-most)
	for _, c := range []struct {
		p  api.Prism
		by api.Vec
	}{
		{wedge(), vec(most-9, 0, 0)},
		{wedge(), vec(0, most-9, 0)},
		{wedge(), vec(0, 0, most-4)},
		{low, vec(-1, 0, 0)},
		{low, vec(0, -1, 0)},
		{low, vec(0, 0, -1)},
		// The result would be in range, but the way is not.
		{low, vec(most+1, 0, 0)},
		{low, vec(0, most+1, 0)},
		{low, vec(0, 0, most+1)},
		{with(most-1, most, most, most, most-1, most, most, most-1), vec(-most-1, 0, 0)},
		{wedge(), vec(math.MaxInt, 0, 0)},
		{wedge(), vec(0, math.MinInt, 0)},
		{wedge(), vec(0, 0, math.MinInt)},
		{low, vec(math.MinInt, math.MinInt, math.MaxInt)},
	} {
		if got, e := prism.Move(c.p, c.by); !same(got, api.Prism{}) || e != api.ErrRange {
			t.Errorf("Move of %v by %v: %v, %d", c.p, c.by, got, e)
		}
	}
}

// P8.4
func TestSlice(t *testing.T) {
	for _, c := range []struct {
		lo, hi         int
		wantLo, wantHi int
		code           api.Errno
	}{
		{0, 5, 0, 5, api.OK},
		{1, 3, 1, 3, api.OK},
		{-9, 3, 0, 3, api.OK},
		{4, 9, 4, 5, api.OK},
		{-9, 9, 0, 5, api.OK},
		{math.MinInt, math.MaxInt, 0, 5, api.OK},
		{math.MinInt, 1, 0, 1, api.OK},
		{4, math.MaxInt, 4, 5, api.OK},
		{-2 * most, 2 * most, 0, 5, api.OK},
		{5, 9, 0, 0, api.ErrNone},
		{-9, 0, 0, 0, api.ErrNone},
		{7, 9, 0, 0, api.ErrNone},
		{-9, -7, 0, 0, api.ErrNone},
		{math.MinInt, math.MinInt + 1, 0, 0, api.ErrNone},
		{math.MaxInt - 1, math.MaxInt, 0, 0, api.ErrNone},
		{3, 3, 0, 0, api.ErrInvalid},
		{4, 3, 0, 0, api.ErrInvalid},
		{9, 7, 0, 0, api.ErrInvalid},
		{7, 7, 0, 0, api.ErrInvalid},
		{math.MaxInt, math.MinInt, 0, 0, api.ErrInvalid},
	} {
		want := api.Prism{}
		if c.code == api.OK {
			want = api.Prism{Base: wedge().Base, Lo: c.wantLo, Hi: c.wantHi}
		}
		if got, e := prism.Slice(wedge(), c.lo, c.hi); !same(got, want) || e != c.code {
			t.Errorf("Slice from %d to %d: %v, %d, want %v, %d", c.lo, c.hi, got, e, want, c.code)
		}
	}
}

// P8.4 and P8.5: boxes overlap a slice as far as they overlap the prism and its range.
func TestSliceByBoxes(t *testing.T) {
	p := api.Prism{Base: wedge().Base, Lo: -1, Hi: 4}
	for lo := -2; lo < 5; lo++ {
		for hi := lo + 1; hi < 6; hi++ {
			part, e := prism.Slice(p, lo, hi)
			for _, b := range smallBoxes() {
				layer, f := box.Intersect(b, from(-most, -most, lo, most, most, hi))
				want := false
				if f == api.OK {
					want, _ = prism.Overlaps(p, layer)
				}
				if got, _ := prism.Overlaps(part, b); got != want {
					t.Fatalf("the slice %v, %d from %d to %d, and %v: %v", part, e, lo, hi, b, got)
				}
			}
		}
	}
}

// The Rules: arguments are not modified, and results share no memory with them.
func TestBasesAreLeftAlone(t *testing.T) {
	p, q := wedge(), with(0, 5, 1, 1, 5, 1, 1, 5)
	b := from(1, 1, 1, 4, 4, 2)
	moved, _ := prism.Move(p, vec(0, 0, 0))
	part, _ := prism.Slice(p, 1, 2)
	prism.Hull(p)
	prism.Area2(p)
	prism.Overlaps(p, b)
	prism.Covers(p, b)
	prism.Separator(p, b)
	prism.Meets(p, q)
	if !same(p, wedge()) || !same(q, with(0, 5, 1, 1, 5, 1, 1, 5)) {
		t.Errorf("arguments are changed to %v and %v", p, q)
	}
	clear(p.Base)
	if !slices.Equal(moved.Base, wedge().Base) || !slices.Equal(part.Base, wedge().Base) {
		t.Errorf("results share memory: %v, %v", moved, part)
	}
}
