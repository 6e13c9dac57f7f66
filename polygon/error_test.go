package polygon_test

import (
	"math"
	"slices"
	"testing"

	"gangsaw/api"
	"gangsaw/polygon"
)

// call is a function of a polygon; it reports whether all results but the error are zero. Those that need a simple polygon refuse others.
type call struct {
	name        string
	needsSimple bool
	call        func(p api.Polygon) (bool, api.Errno)
}

func calls() []call {
	return []call{
		{"Check", false, func(p api.Polygon) (bool, api.Errno) { return true, polygon.Check(p) }},
		{"Area2", false, func(p api.Polygon) (bool, api.Errno) {
			n, e := polygon.Area2(p)
			return n == 0, e
		}},
		{"Simple", false, func(p api.Polygon) (bool, api.Errno) {
			is, e := polygon.Simple(p)
			return !is, e
		}},
		{"Convex", false, func(p api.Polygon) (bool, api.Errno) {
			is, e := polygon.Convex(p)
			return !is, e
		}},
		{"Bounds", false, func(p api.Polygon) (bool, api.Errno) {
			least, greatest, e := polygon.Bounds(p)
			return least == api.Point{} && greatest == api.Point{}, e
		}},
		{"Side", true, func(p api.Polygon) (bool, api.Errno) {
			n, e := polygon.Side(p, pt(3, 77))
			return n == 0, e
		}},
		{"Canonical", true, func(p api.Polygon) (bool, api.Errno) {
			c, e := polygon.Canonical(p)
			return len(c) == 0, e
		}},
	}
}

func errorCases() map[string]struct {
	p    api.Polygon
	want api.Errno
} {
	far := most + 1
	long := parabola(api.MaxCorners + 1)
	return map[string]struct {
		p    api.Polygon
		want api.Errno
	}{
		"too many corners":                   {long, api.ErrTooMany},
		"too many equal corners, far away":   {slices.Repeat(poly(far, far), api.MaxCorners+1), api.ErrTooMany},
		"no corner":                          {nil, api.ErrInvalid},
		"no corner, not nil":                 {api.Polygon{}, api.ErrInvalid},
		"one corner":                         {poly(1, 1), api.ErrInvalid},
		"two corners":                        {poly(1, 1, 2, 2), api.ErrInvalid},
		"two equal corners, far away":        {poly(far, 1, far, 1), api.ErrInvalid},
		"x too great":                        {poly(0, 0, far, 0, 0, 1), api.ErrRange},
		"x too small":                        {poly(0, 0, 1, 0, -far, 1), api.ErrRange},
		"y too great":                        {poly(0, far, 1, 0, 0, 1), api.ErrRange},
		"y too small":                        {poly(0, 0, 1, 0, 0, -far), api.ErrRange},
		"extreme numbers":                    {poly(math.MinInt, math.MaxInt, math.MaxInt, 0, 0, math.MinInt), api.ErrRange},
		"the last of many corners far away":  {append(parabola(api.MaxCorners-1), pt(0, far)), api.ErrRange},
		"equal neighbours and a far corner":  {poly(0, 0, 0, 0, 1, 1, far, 0), api.ErrRange},
		"equal neighbours at the beginning":  {poly(0, 0, 0, 0, 1, 0, 1, 1), api.ErrDuplicate},
		"equal neighbours in the middle":     {poly(0, 0, 1, 0, 1, 0, 1, 1), api.ErrDuplicate},
		"equal neighbours at the end":        {poly(0, 0, 1, 0, 1, 1, 1, 1), api.ErrDuplicate},
		"the last corner equal to the first": {poly(0, 0, 1, 0, 1, 1, 0, 0), api.ErrDuplicate},
		"all corners equal":                  {poly(5, 5, 5, 5, 5, 5), api.ErrDuplicate},
		"equal neighbours, not simple":       {poly(0, 0, 10, 10, 10, 10, 10, 0, 0, 10), api.ErrDuplicate},
	}
}

// P1: the errors of all functions of polygons, in their order, with zero results.
func TestErrors(t *testing.T) {
	for name, c := range errorCases() {
		for _, f := range calls() {
			if zero, e := f.call(c.p); e != c.want || !zero {
				t.Errorf("%s with %s: %d, want %d; zero results: %v", f.name, name, e, c.want, zero)
			}
		}
	}
}

// P1: polygons that are valid but not simple are refused by Side and Canonical alone.
func TestErrorsOfSimplicity(t *testing.T) {
	for _, p := range []api.Polygon{
		poly(0, 0, 10, 10, 10, 0, 0, 10),
		poly(0, 0, 5, 5, 9, 9),
		poly(0, 0, 5, 0, 5, 5, 5, 0),
	} {
		for _, f := range calls() {
			want := api.OK
			if f.needsSimple {
				want = api.ErrConflict
			}
			if zero, e := f.call(p); e != want || f.needsSimple && !zero {
				t.Errorf("%s of %v: %d, want %d; zero results: %v", f.name, p, e, want, zero)
			}
		}
	}
}

// P1: a point that is not allowed is refused by Side at the place of the corners.
func TestErrorsOfSide(t *testing.T) {
	for _, q := range []api.Point{pt(most+1, 0), pt(0, most+1), pt(-most-1, 5), pt(5, -most-1), pt(math.MinInt, math.MaxInt)} {
		for _, c := range []struct {
			p    api.Polygon
			want api.Errno
		}{
			{poly(0, 0, 10, 0, 10, 10, 0, 10), api.ErrRange},
			{parabola(api.MaxCorners + 1), api.ErrTooMany},
			{poly(0, 0, 10, 0), api.ErrInvalid},
			{nil, api.ErrInvalid},
			{poly(0, 0, 0, 0, 10, 10), api.ErrRange},
			{poly(0, 0, 10, 10, 10, 0, 0, 10), api.ErrRange},
		} {
			if n, e := polygon.Side(c.p, q); n != 0 || e != c.want {
				t.Errorf("Side of %v and %v: %d, %d, want %d", c.p, q, n, e, c.want)
			}
		}
	}
	if n, e := polygon.Side(poly(0, 0, 10, 0, 0, 10), pt(most, -most)); n != -1 || e != api.OK {
		t.Errorf("Side of a point that is just allowed: %d, %d", n, e)
	}
}

// P1: the errors of Hull, in their order.
func TestErrorsOfHull(t *testing.T) {
	far := pt(most+1, 0)
	for name, c := range map[string]struct {
		list []api.Point
		want api.Errno
	}{
		"too many points":            {parabola(polygon.MaxPoints + 1), api.ErrTooMany},
		"too many points, far away":  {slices.Repeat([]api.Point{far}, polygon.MaxPoints+1), api.ErrTooMany},
		"too many points, on a line": {slices.Repeat(poly(1, 1), polygon.MaxPoints+1), api.ErrTooMany},
		"a point far away":           {append(poly(0, 0, 1, 0, 0, 1), far), api.ErrRange},
		"y too great":                {poly(0, 0, 1, 0, 0, most+1), api.ErrRange},
		"y too small":                {poly(0, -most-1, 1, 0, 0, 1), api.ErrRange},
		"x too small":                {poly(0, 0, -most-1, 0, 0, 1), api.ErrRange},
		"extreme numbers":            {poly(math.MinInt, math.MaxInt, math.MaxInt, 0, 0, math.MinInt), api.ErrRange},
		"one point, far away":        {[]api.Point{far}, api.ErrRange},
		"a line, with a far point":   {append(poly(0, 0, 1, 0), far), api.ErrRange},
		"no point":                   {nil, api.ErrNone},
		"no point, not nil":          {[]api.Point{}, api.ErrNone},
		"one point":                  {poly(5, 5), api.ErrNone},
		"one point, several times":   {poly(5, 5, 5, 5, 5, 5, 5, 5), api.ErrNone},
		"two points":                 {poly(5, 5, 6, 9), api.ErrNone},
		"a horizontal line":          {poly(5, 5, 9, 5, 7, 5, 5, 5), api.ErrNone},
		"a vertical line":            {poly(5, 5, 5, -5, 5, 0, 5, 7), api.ErrNone},
		"a slanted line":             {poly(most, most, -most, -most, 3, 3, most-1, most-1), api.ErrNone},
		"many points of a line":      {slices.Repeat(poly(1, 1, 2, 3, 3, 5, 2, 3), polygon.MaxPoints/4), api.ErrNone},
	} {
		if p, e := polygon.Hull(c.list); len(p) != 0 || e != c.want {
			t.Errorf("Hull with %s: %v, %d, want %d", name, p, e, c.want)
		}
	}
}
