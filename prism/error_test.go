package prism_test

import (
	"math"
	"slices"
	"testing"

	"gangsaw/api"
	"gangsaw/prism"
)

// result is what a call returns: whether all results but the error are zero, and the error.
type result struct {
	zero bool
	code api.Errno
}

// prismCalls returns what all functions answer to a prism, wherever it stands, with valid arguments beside it.
func prismCalls(p api.Prism) map[string]result {
	meets, first := prism.Meets(p, wedge())
	again, second := prism.Meets(wedge(), p)
	out := map[string]result{
		"Check":        {true, prism.Check(p)},
		"Meets first":  {!meets, first},
		"Meets second": {!again, second},
	}
	hull, e := prism.Hull(p)
	out["Hull"] = result{hull == api.Box{}, e}
	area, e := prism.Area2(p)
	out["Area2"] = result{area == 0, e}
	moved, e := prism.Move(p, vec(1, 2, 3))
	out["Move"] = result{same(moved, api.Prism{}), e}
	part, e := prism.Slice(p, 1, 2)
	out["Slice"] = result{same(part, api.Prism{}), e}
	for name, r := range boxCalls(p, from(1, 1, 1, 2, 2, 2)) {
		out[name] = r
	}
	return out
}

// boxCalls returns what the functions of a prism and a box answer.
func boxCalls(p api.Prism, b api.Box) map[string]result {
	overlaps, e := prism.Overlaps(p, b)
	out := map[string]result{"Overlaps": {!overlaps, e}}
	covers, e := prism.Covers(p, b)
	out["Covers"] = result{!covers, e}
	edge, e := prism.Separator(p, b)
	out["Separator"] = result{edge == 0, e}
	return out
}

// errorCase is a prism that is not valid.
type errorCase struct {
	p    api.Prism
	want api.Errno
}

// rangeCases are prisms with wrong numbers.
func rangeCases() map[string]errorCase {
	far := most + 1
	return map[string]errorCase{
		"x too great":                      {with(0, 5, 0, 0, far, 0, 0, 10), api.ErrRange},
		"x too small":                      {with(0, 5, 0, 0, 10, 0, -far, 10), api.ErrRange},
		"y too great":                      {with(0, 5, 0, 0, 10, 0, 0, far), api.ErrRange},
		"y too small":                      {with(0, 5, 0, -far, 10, 0, 0, 10), api.ErrRange},
		"Lo too small":                     {with(-far, 5, 0, 0, 10, 0, 0, 10), api.ErrRange},
		"Hi too great":                     {with(0, far, 0, 0, 10, 0, 0, 10), api.ErrRange},
		"Lo too great":                     {with(far, 5, 0, 0, 10, 0, 0, 10), api.ErrRange},
		"Hi too small":                     {with(0, -far, 0, 0, 10, 0, 0, 10), api.ErrRange},
		"extreme heights":                  {with(math.MinInt, math.MaxInt, 0, 0, 10, 0, 0, 10), api.ErrRange},
		"extreme corners":                  {with(0, 5, math.MinInt, math.MaxInt, math.MaxInt, 0, 0, math.MinInt), api.ErrRange},
		"the last corner far away":         {api.Prism{Base: append(parabola(api.MaxCorners-1), api.Point{Y: far}), Hi: 1}, api.ErrRange},
		"far away and clockwise":           {with(0, 5, 0, 0, 0, far, 10, 0), api.ErrRange},
		"far away and no height":           {with(5, 5, 0, 0, far, 0, 0, 10), api.ErrRange},
		"Lo too small, a clockwise base":   {with(-far, 5, 0, 0, 0, 10, 10, 0), api.ErrRange},
		"Hi too great, with equal corners": {with(0, far, 0, 0, 0, 0, 10, 0), api.ErrRange},
		"no height":                        {with(5, 5, 0, 0, 10, 0, 0, 10), api.ErrInvalid},
		"Hi below Lo":                      {with(5, 0, 0, 0, 10, 0, 0, 10), api.ErrInvalid},
		"Hi far below Lo":                  {with(most, -most, 0, 0, 10, 0, 0, 10), api.ErrInvalid},
	}
}

// baseCases are prisms with wrong bases.
func baseCases() map[string]errorCase {
	far := most + 1
	return map[string]errorCase{
		"too many corners":               {api.Prism{Base: parabola(api.MaxCorners + 1), Hi: 1}, api.ErrTooMany},
		"too many corners, all wrong":    {api.Prism{Base: slices.Repeat(poly(far, far), api.MaxCorners+1), Lo: far}, api.ErrTooMany},
		"nothing":                        {api.Prism{}, api.ErrInvalid},
		"no corner, not nil":             {api.Prism{Base: api.Polygon{}, Hi: 5}, api.ErrInvalid},
		"one corner":                     {with(0, 5, 1, 1), api.ErrInvalid},
		"two corners":                    {with(0, 5, 1, 1, 2, 2), api.ErrInvalid},
		"two corners, far away":          {with(-far, far, far, 1, 2, far), api.ErrInvalid},
		"clockwise":                      {with(0, 5, 0, 0, 0, 10, 10, 0), api.ErrInvalid},
		"on a line":                      {with(0, 5, 0, 0, 5, 5, 9, 9), api.ErrInvalid},
		"there and back":                 {with(0, 5, 0, 0, 10, 0, 0, 0, 10, 0), api.ErrInvalid},
		"a corner on an edge":            {with(0, 5, 0, 0, 5, 0, 10, 0, 10, 10, 0, 10), api.ErrInvalid},
		"the last corner on an edge":     {with(0, 5, 0, 0, 10, 0, 10, 10, 0, 10, 0, 5), api.ErrInvalid},
		"equal neighbours":               {with(0, 5, 0, 0, 10, 0, 10, 0, 0, 10), api.ErrInvalid},
		"the last corner like the first": {with(0, 5, 0, 0, 10, 0, 0, 10, 0, 0), api.ErrInvalid},
		"all corners equal":              {with(0, 5, 3, 3, 3, 3, 3, 3), api.ErrInvalid},
		"a dent":                         {with(0, 5, 0, 0, 10, 0, 10, 10, 5, 1, 0, 10), api.ErrInvalid},
		"a bow tie":                      {with(0, 5, 0, 0, 10, 10, 10, 0, 0, 10), api.ErrInvalid},
		"twice around":                   {with(0, 5, 0, 0, 10, 0, 0, 10, 0, 0, 10, 0, 0, 10), api.ErrInvalid},
		"a star":                         {with(0, 5, 0, 0, 8, 6, -2, 6, 6, 0, 3, 9), api.ErrInvalid},
		"a flat dent far away":           {with(0, 5, -most, -most, 0, 0, most, most, 0, 1), api.ErrInvalid},
	}
}

// P1 and P8.1: all functions refuse a prism that is not valid, with zero results.
func TestErrorsOfPrisms(t *testing.T) {
	for _, cases := range []map[string]errorCase{rangeCases(), baseCases()} {
		for name, c := range cases {
			for call, got := range prismCalls(c.p) {
				if got.code != c.want || !got.zero {
					t.Errorf("%s with %s: %d, want %d; zero results: %v", call, name, got.code, c.want, got.zero)
				}
			}
		}
	}
}

// P1: a prism just within the limits is no error.
func TestNoErrors(t *testing.T) {
	for name, got := range prismCalls(api.Prism{Base: parabola(api.MaxCorners), Lo: 0, Hi: 5}) {
		if got.code != api.OK {
			t.Errorf("%s: %d", name, got.code)
		}
	}
}

// The prisms of the tests of the order of errors.
func tooMany() api.Prism   { return api.Prism{Base: parabola(api.MaxCorners + 1), Hi: 1} }
func beyond() api.Prism    { return with(0, most+1, 0, 0, 10, 0, 0, 10) }
func clockwise() api.Prism { return with(0, 5, 0, 0, 0, 10, 10, 0) }

// P1: of two prisms the first one is checked before the second one.
func TestErrorsOfTwoPrisms(t *testing.T) {
	for _, c := range []struct {
		p, q api.Prism
		want api.Errno
	}{
		{clockwise(), tooMany(), api.ErrInvalid},
		{clockwise(), beyond(), api.ErrInvalid},
		{beyond(), tooMany(), api.ErrRange},
		{beyond(), clockwise(), api.ErrRange},
		{tooMany(), api.Prism{}, api.ErrTooMany},
		{api.Prism{}, tooMany(), api.ErrInvalid},
		{api.Prism{}, api.Prism{}, api.ErrInvalid},
	} {
		if is, e := prism.Meets(c.p, c.q); is || e != c.want {
			t.Errorf("Meets of %v and %v: %v, %d, want %d", c.p, c.q, is, e, c.want)
		}
	}
}

// wrongBoxes returns boxes that are not valid, for all kinds of reasons.
func wrongBoxes() []api.Box {
	return []api.Box{
		{},
		from(0, 0, 0, 1, 1, 0),
		from(0, 0, 0, 0, 1, 1),
		from(0, 2, 0, 1, 1, 1),
		from(2, 2, 0, 1, 1, 1),
		from(0, 0, 0, most+1, 1, 1),
		from(0, 0, -most-1, 1, 1, 1),
		from(9, 9, 9, 3, 3, -most-1),
		from(math.MinInt, math.MinInt, math.MinInt, math.MaxInt, math.MaxInt, math.MaxInt),
	}
}

// P1: a box that is not valid is ErrInvalid, also out of range, and stands behind the prism.
func TestErrorsOfBoxes(t *testing.T) {
	for _, b := range wrongBoxes() {
		for _, c := range []struct {
			p    api.Prism
			want api.Errno
		}{
			{wedge(), api.ErrInvalid},
			{tooMany(), api.ErrTooMany},
			{beyond(), api.ErrRange},
			{clockwise(), api.ErrInvalid},
		} {
			for name, got := range boxCalls(c.p, b) {
				if got.code != c.want || !got.zero {
					t.Errorf("%s of %v and %v: %d, want %d; zero results: %v", name, c.p, b, got.code, c.want, got.zero)
				}
			}
		}
		if p, e := prism.Of(b); !same(p, api.Prism{}) || e != api.ErrInvalid {
			t.Errorf("Of of %v: %v, %d", b, p, e)
		}
	}
}

// P1: the errors of Move and Slice stand behind those of the prism.
func TestErrorsOfMoveAndSlice(t *testing.T) {
	for _, c := range []struct {
		p    api.Prism
		want api.Errno
	}{
		{tooMany(), api.ErrTooMany},
		{clockwise(), api.ErrInvalid},
		{beyond(), api.ErrRange},
		{api.Prism{}, api.ErrInvalid},
	} {
		if p, e := prism.Move(c.p, vec(most+1, 0, 0)); !same(p, api.Prism{}) || e != c.want {
			t.Errorf("Move of %v: %v, %d, want %d", c.p, p, e, c.want)
		}
		for _, z := range [][2]int{{3, 3}, {7, 9}} {
			if p, e := prism.Slice(c.p, z[0], z[1]); !same(p, api.Prism{}) || e != c.want {
				t.Errorf("Slice of %v from %d to %d: %v, %d, want %d", c.p, z[0], z[1], p, e, c.want)
			}
		}
	}
}
