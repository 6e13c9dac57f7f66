package span_test

import (
	"iter"
	"math"
	"slices"
	"testing"

	"gangsaw/api"
	"gangsaw/span"
)

const most = span.MaxNumber

func in(lo, hi int) api.Interval { return api.Interval{Lo: lo, Hi: hi} }

func repeat(a api.Interval, n int) []api.Interval { return slices.Repeat([]api.Interval{a}, n) }

// allIntervals produces all intervals with ends from lo to hi, the reversed ones too.
func allIntervals(lo, hi int) iter.Seq[api.Interval] {
	return func(yield func(api.Interval) bool) {
		for a := lo; a <= hi; a++ {
			for b := lo; b <= hi; b++ {
				if !yield(in(a, b)) {
					return
				}
			}
		}
	}
}

// validIntervals produces the valid ones of them.
func validIntervals(lo, hi int) iter.Seq[api.Interval] {
	return func(yield func(api.Interval) bool) {
		for a := range allIntervals(lo, hi) {
			if a.Lo <= a.Hi && !yield(a) {
				return
			}
		}
	}
}

// P1.1
func TestCheckAndLength(t *testing.T) {
	for _, c := range []struct {
		a      api.Interval
		code   api.Errno
		length int
	}{
		{in(0, 0), api.OK, 1},
		{in(1, 3), api.OK, 3},
		{in(-1, 1), api.OK, 3},
		{in(-most, most), api.OK, 2*most + 1},
		{in(most, most), api.OK, 1},
		{in(-most, -most), api.OK, 1},
		{in(2, 1), api.ErrInvalid, 0},
		{in(5, 1), api.ErrInvalid, 0},
		{in(most, -most), api.ErrInvalid, 0},
		{in(-most-1, 0), api.ErrRange, 0},
		{in(0, most+1), api.ErrRange, 0},
		{in(most+1, most+1), api.ErrRange, 0},
		{in(-most-1, -most-1), api.ErrRange, 0},
		{in(most+1, 0), api.ErrRange, 0},
		{in(0, -most-1), api.ErrRange, 0},
		{in(math.MinInt, math.MaxInt), api.ErrRange, 0},
		{in(math.MaxInt, math.MinInt), api.ErrRange, 0},
	} {
		if e := span.Check(c.a); e != c.code {
			t.Errorf("Check of %v: %d, want %d", c.a, e, c.code)
		}
		if n := span.Length(c.a); n != c.length {
			t.Errorf("Length of %v: %d, want %d", c.a, n, c.length)
		}
	}
}

// P1.1
func TestContains(t *testing.T) {
	for _, c := range []struct {
		a    api.Interval
		n    int
		want bool
	}{
		{in(1, 3), 0, false},
		{in(1, 3), 1, true},
		{in(1, 3), 2, true},
		{in(1, 3), 3, true},
		{in(1, 3), 4, false},
		{in(3, 1), 1, false},
		{in(3, 1), 2, false},
		{in(3, 1), 3, false},
		{in(most+5, most+7), most + 6, true},
		{in(math.MinInt, math.MaxInt), math.MaxInt, true},
		{in(math.MinInt, math.MaxInt), math.MinInt, true},
		{in(math.MaxInt, math.MinInt), 0, false},
	} {
		if got := span.Contains(c.a, c.n); got != c.want {
			t.Errorf("Contains of %v and %d: %v", c.a, c.n, got)
		}
	}
}

// P1.1
func TestWithin(t *testing.T) {
	for a := range allIntervals(0, 4) {
		for b := range allIntervals(0, 4) {
			want := true
			for n := a.Lo; n <= a.Hi; n++ {
				want = want && span.Contains(b, n)
			}
			if got := span.Within(a, b); got != want {
				t.Errorf("Within of %v and %v: %v", a, b, got)
			}
		}
	}
	if !span.Within(in(math.MaxInt, math.MinInt), in(9, 3)) {
		t.Error("an interval without numbers is not within another one")
	}
	if !span.Within(in(most+2, most+3), in(0, math.MaxInt)) || span.Within(in(math.MinInt, 0), in(-most, most)) {
		t.Error("Within of intervals out of range")
	}
}

// P1.2
func TestAddAndSub(t *testing.T) {
	none := api.Interval{}
	for _, c := range []struct {
		a, b    api.Interval
		add     api.Interval
		addCode api.Errno
		sub     api.Interval
		subCode api.Errno
	}{
		{in(1, 3), in(10, 20), in(11, 23), api.OK, in(-19, -7), api.OK},
		{in(0, 0), in(0, 0), in(0, 0), api.OK, in(0, 0), api.OK},
		{in(-5, 2), in(-1, 4), in(-6, 6), api.OK, in(-9, 3), api.OK},
		{in(7, 7), in(7, 7), in(14, 14), api.OK, in(0, 0), api.OK},
		{in(-most, most), in(0, 0), in(-most, most), api.OK, in(-most, most), api.OK},
		{in(most-1, most), in(-most, 0), in(-1, most), api.OK, none, api.ErrRange},
		{in(-most, 0), in(-most, 0), none, api.ErrRange, in(-most, most), api.OK},
		{in(0, most), in(0, 1), none, api.ErrRange, in(-1, most), api.OK},
		{in(-most, 0), in(-1, 0), none, api.ErrRange, in(-most, 1), api.OK},
		{in(-most, 0), in(0, 1), in(-most, 1), api.OK, none, api.ErrRange},
		{in(0, most), in(-1, 0), in(-1, most), api.OK, none, api.ErrRange},
		{in(-most, most), in(-most, most), none, api.ErrRange, none, api.ErrRange},
	} {
		if got, e := span.Add(c.a, c.b); got != c.add || e != c.addCode {
			t.Errorf("Add of %v and %v: %v, %d, want %v, %d", c.a, c.b, got, e, c.add, c.addCode)
		}
		if got, e := span.Sub(c.a, c.b); got != c.sub || e != c.subCode {
			t.Errorf("Sub of %v and %v: %v, %d, want %v, %d", c.a, c.b, got, e, c.sub, c.subCode)
		}
	}
}

// P1.2
func TestSum(t *testing.T) {
	for _, c := range []struct {
		list []api.Interval
		want api.Interval
		code api.Errno
	}{
		{nil, in(0, 0), api.OK},
		{[]api.Interval{}, in(0, 0), api.OK},
		{[]api.Interval{in(4, 9)}, in(4, 9), api.OK},
		{repeat(in(1, 2), 3), in(3, 6), api.OK},
		{[]api.Interval{in(1, 2), in(-7, 10), in(0, 5)}, in(-6, 17), api.OK},
		{[]api.Interval{in(most, most), in(most, most), in(-most, -most)}, in(most, most), api.OK},
		{[]api.Interval{in(-most, -most), in(-most, -most), in(most, most)}, in(-most, -most), api.OK},
		{repeat(in(-1, 100000000), span.MaxList), in(-span.MaxList, most), api.OK},
		{[]api.Interval{in(0, most), in(0, 1)}, api.Interval{}, api.ErrRange},
		{[]api.Interval{in(-most, 0), in(-1, 0)}, api.Interval{}, api.ErrRange},
		{repeat(in(most, most), span.MaxList), api.Interval{}, api.ErrRange},
		{repeat(in(-most, -most), span.MaxList), api.Interval{}, api.ErrRange},
	} {
		if got, e := span.Sum(c.list); got != c.want || e != c.code {
			t.Errorf("Sum of %d intervals: %v, %d, want %v, %d", len(c.list), got, e, c.want, c.code)
		}
	}
}

// P1.3
func TestIntersectAndHull(t *testing.T) {
	for _, c := range []struct {
		a, b      api.Interval
		intersect api.Interval
		code      api.Errno
		hull      api.Interval
	}{
		{in(1, 2), in(3, 4), api.Interval{}, api.ErrNone, in(1, 4)},
		{in(3, 4), in(1, 2), api.Interval{}, api.ErrNone, in(1, 4)},
		{in(1, 3), in(3, 4), in(3, 3), api.OK, in(1, 4)},
		{in(3, 4), in(1, 3), in(3, 3), api.OK, in(1, 4)},
		{in(1, 9), in(4, 5), in(4, 5), api.OK, in(1, 9)},
		{in(4, 5), in(1, 9), in(4, 5), api.OK, in(1, 9)},
		{in(-5, 5), in(0, 8), in(0, 5), api.OK, in(-5, 8)},
		{in(0, 0), in(0, 0), in(0, 0), api.OK, in(0, 0)},
		{in(-most, -most), in(most, most), api.Interval{}, api.ErrNone, in(-most, most)},
		{in(-most, most), in(-most, most), in(-most, most), api.OK, in(-most, most)},
	} {
		if got, e := span.Intersect(c.a, c.b); got != c.intersect || e != c.code {
			t.Errorf("Intersect of %v and %v: %v, %d, want %v, %d", c.a, c.b, got, e, c.intersect, c.code)
		}
		if got, e := span.Hull(c.a, c.b); got != c.hull || e != api.OK {
			t.Errorf("Hull of %v and %v: %v, %d, want %v", c.a, c.b, got, e, c.hull)
		}
	}
}

// P1.3
func TestIntersectAndHullByNumbers(t *testing.T) {
	for a := range validIntervals(-2, 3) {
		for b := range validIntervals(-2, 3) {
			c, code := span.Intersect(a, b)
			h, e := span.Hull(a, b)
			common := false
			for n := -3; n <= 4; n++ {
				both := span.Contains(a, n) && span.Contains(b, n)
				common = common || both
				if code == api.OK && span.Contains(c, n) != both {
					t.Errorf("Intersect of %v and %v: %v", a, b, c)
				}
			}
			if common != (code == api.OK) {
				t.Errorf("Intersect of %v and %v: %d", a, b, code)
			}
			if e != api.OK || !span.Within(a, h) || !span.Within(b, h) || h.Lo != a.Lo && h.Lo != b.Lo || h.Hi != a.Hi && h.Hi != b.Hi {
				t.Errorf("Hull of %v and %v: %v, %d", a, b, h, e)
			}
		}
	}
}

// P1.5
func TestEverySumIsInSumAndBothEndsAreSums(t *testing.T) {
	for a := range validIntervals(-2, 2) {
		for b := range validIntervals(-1, 3) {
			sum, e := span.Sum([]api.Interval{a, b})
			if e != api.OK {
				t.Fatalf("Sum of %v and %v: %d", a, b, e)
			}
			met := map[int]bool{}
			for x := a.Lo; x <= a.Hi; x++ {
				for y := b.Lo; y <= b.Hi; y++ {
					met[x+y] = true
					if !span.Contains(sum, x+y) {
						t.Errorf("Sum of %v and %v is %v without %d", a, b, sum, x+y)
					}
				}
			}
			if !met[sum.Lo] || !met[sum.Hi] {
				t.Errorf("Sum of %v and %v: %v", a, b, sum)
			}
		}
	}
}
