package plane_test

import (
	"math"
	"testing"

	"gangsaw/api"
	"gangsaw/plane"
)

// result is what a call returns: whether all results but the error are zero, and the error.
type result struct {
	zero bool
	code api.Errno
}

// The half-spaces of the tests of errors: valid, out of range, without coefficients, and both.
func good() api.Half    { return half(1, 0, 2, 10) }
func beyond() api.Half  { return half(1001, 0, 2, 10) }
func without() api.Half { return half(0, 0, 0, 10) }
func both() api.Half    { return half(0, 0, 0, far+1) }

// inner is a box that lies in good.
func inner() api.Box { return from(0, 0, 0, 4, 1, 3) }

// halfCalls returns what all functions answer to a half-space, wherever it stands, with valid arguments beside it.
func halfCalls(h api.Half) map[string]result {
	_, wide := plane.Within(h, good())
	is, behind := plane.Within(good(), h)
	equal, first := plane.Equal(h, good())
	same, second := plane.Equal(good(), h)
	value, e := plane.Value(h, vec(1, 2, 3))
	out := map[string]result{
		"Check":         {true, plane.Check(h)},
		"Within first":  {true, wide},
		"Within second": {!is, behind},
		"Equal first":   {!equal, first},
		"Equal second":  {!same, second},
		"Value":         {value == 0, e},
	}
	least, greatest, e := plane.Extremes(h, inner())
	out["Extremes"] = result{least == 0 && greatest == 0, e}
	side, e := plane.Side(h, inner())
	out["Side"] = result{side == 0, e}
	normal, e := plane.Normal(h)
	out["Normal"] = result{normal == api.Half{}, e}
	hull, e := plane.Hull(h, inner())
	out["Hull"] = result{hull == api.Box{}, e}
	depth, e := plane.Depth(h, inner(), api.MinusX, 5)
	out["Depth"] = result{depth == 0, e}
	return out
}

// P1 and P7.1: all functions refuse a half-space that is not valid, with zero results.
func TestErrorsOfHalfSpaces(t *testing.T) {
	for _, c := range []struct {
		h    api.Half
		want api.Errno
	}{
		{beyond(), api.ErrRange},
		{half(0, -1001, 0, 0), api.ErrRange},
		{half(0, 0, 1001, 0), api.ErrRange},
		{half(1, 1, 1, far+1), api.ErrRange},
		{half(1, 1, 1, -far-1), api.ErrRange},
		{half(math.MaxInt, math.MinInt, math.MaxInt, math.MaxInt64), api.ErrRange},
		{half(1, 0, 0, math.MinInt64), api.ErrRange},
		{both(), api.ErrRange},
		{without(), api.ErrInvalid},
	} {
		for name, got := range halfCalls(c.h) {
			if got.code != c.want || !got.zero {
				t.Errorf("%s of %v: %d, want %d; zero results: %v", name, c.h, got.code, c.want, got.zero)
			}
		}
	}
}

// P1: of two half-spaces the first one is checked before the second one.
func TestErrorsOfTwoHalfSpaces(t *testing.T) {
	for _, c := range []struct {
		a, b api.Half
		want api.Errno
	}{
		{beyond(), without(), api.ErrRange},
		{without(), beyond(), api.ErrInvalid},
		{without(), without(), api.ErrInvalid},
		{both(), without(), api.ErrRange},
		{without(), both(), api.ErrInvalid},
	} {
		if is, e := plane.Equal(c.a, c.b); is || e != c.want {
			t.Errorf("Equal of %v and %v: %v, %d, want %d", c.a, c.b, is, e, c.want)
		}
		if is, e := plane.Within(c.a, c.b); is || e != c.want {
			t.Errorf("Within of %v and %v: %v, %d, want %d", c.a, c.b, is, e, c.want)
		}
	}
}

// P1: the errors of Value and their order.
func TestErrorsOfValue(t *testing.T) {
	for _, p := range []api.Vec{vec(most+1, 0, 0), vec(0, -most-1, 0), vec(0, 0, most+1), vec(math.MinInt, math.MaxInt, 0)} {
		for _, c := range []struct {
			h    api.Half
			want api.Errno
		}{
			{good(), api.ErrRange},
			{beyond(), api.ErrRange},
			{without(), api.ErrInvalid},
		} {
			if n, e := plane.Value(c.h, p); n != 0 || e != c.want {
				t.Errorf("Value of %v at %v: %d, %d, want %d", c.h, p, n, e, c.want)
			}
		}
	}
}

// boxCalls returns what the functions of a half-space and a box answer, with other arguments of Depth that are refused later.
func boxCalls(h api.Half, b api.Box) map[string]result {
	least, greatest, e := plane.Extremes(h, b)
	out := map[string]result{"Extremes": {least == 0 && greatest == 0, e}}
	side, e := plane.Side(h, b)
	out["Side"] = result{side == 0, e}
	hull, e := plane.Hull(h, b)
	out["Hull"] = result{hull == api.Box{}, e}
	depth, e := plane.Depth(h, b, api.MinusX, 7)
	out["Depth"] = result{depth == 0, e}
	depth, e = plane.Depth(h, b, -1, -1)
	out["Depth with other errors"] = result{depth == 0, e}
	return out
}

// P1: the errors of boxes stand behind those of half-spaces, and before all others.
func TestErrorsOfBoxes(t *testing.T) {
	outside, flat := from(0, 0, 0, most+1, 1, 1), from(0, 0, 0, 1, 0, 1)
	for _, c := range []struct {
		h    api.Half
		b    api.Box
		want api.Errno
	}{
		{good(), outside, api.ErrRange},
		{good(), flat, api.ErrInvalid},
		{good(), api.Box{}, api.ErrInvalid},
		{good(), from(9, 9, 9, 3, 3, -most-1), api.ErrRange},
		{good(), from(math.MinInt, 0, 0, math.MaxInt, 1, 1), api.ErrRange},
		// Far from the half-space.
		{good(), from(90, 0, 90, 90, 9, 99), api.ErrInvalid},
		{without(), outside, api.ErrInvalid},
		{beyond(), flat, api.ErrRange},
		{both(), flat, api.ErrRange},
	} {
		for name, got := range boxCalls(c.h, c.b) {
			if got.code != c.want || !got.zero {
				t.Errorf("%s of %v and %v: %d, want %d; zero results: %v", name, c.h, c.b, got.code, c.want, got.zero)
			}
		}
	}
}

// P1: the errors of Depth and their order.
func TestErrorsOfDepth(t *testing.T) {
	out := from(0, 0, 0, 5, 1, 3)
	for _, c := range []struct {
		b               api.Box
		direction, most int
		want            api.Errno
	}{
		{inner(), -1, 5, api.ErrRange},
		{inner(), 6, 5, api.ErrRange},
		{inner(), math.MinInt, 5, api.ErrRange},
		{inner(), math.MaxInt, 5, api.ErrRange},
		{inner(), api.MinusX, -1, api.ErrRange},
		{inner(), api.MinusX, most + 1, api.ErrRange},
		{inner(), api.MinusX, math.MaxInt, api.ErrRange},
		{inner(), api.MinusX, math.MinInt, api.ErrRange},
		{out, 6, 5, api.ErrRange},
		{out, api.MinusX, -1, api.ErrRange},
		{out, api.MinusX, 5, api.ErrState},
		{out, api.MinusX, 0, api.ErrState},
		{out, api.MinusZ, most, api.ErrState},
		{from(10, 0, 0, 11, 1, 1), api.MinusX, 5, api.ErrState},
	} {
		if n, e := plane.Depth(good(), c.b, c.direction, c.most); n != 0 || e != c.want {
			t.Errorf("Depth of %v in the direction %d up to %d: %d, %d, want %d", c.b, c.direction, c.most, n, e, c.want)
		}
	}
	if n, e := plane.Depth(good(), inner(), api.MinusZ, most); n != most || e != api.OK {
		t.Errorf("Depth up to the greatest end: %d, %d", n, e)
	}
}
