package box_test

import (
	"math"
	"slices"
	"testing"

	"gangsaw/api"
	"gangsaw/box"
)

// pairCall is a function of two boxes; it reports whether all results but the error are zero.
type pairCall struct {
	name string
	call func(a, b api.Box) (bool, api.Errno)
}

func pairCalls() []pairCall {
	return []pairCall{
		{"Touch", func(a, b api.Box) (bool, api.Errno) {
			n, e := box.Touch(a, b)
			return n == 0, e
		}},
		{"Intersect", func(a, b api.Box) (bool, api.Errno) {
			c, e := box.Intersect(a, b)
			return c == api.Box{}, e
		}},
		{"Hull", func(a, b api.Box) (bool, api.Errno) {
			c, e := box.Hull(a, b)
			return c == api.Box{}, e
		}},
		{"Subtract", func(a, b api.Box) (bool, api.Errno) {
			list, e := box.Subtract(a, b)
			return len(list) == 0, e
		}},
	}
}

// listCall is a function of a list; with takesBox, of a box before it, too.
type listCall struct {
	name     string
	takesBox bool
	call     func(b api.Box, list []api.Box) (bool, api.Errno)
}

func listCalls() []listCall {
	return []listCall{
		{"Rest", true, func(b api.Box, list []api.Box) (bool, api.Errno) {
			rest, e := box.Rest(b, list)
			return len(rest) == 0, e
		}},
		{"Gap", true, func(b api.Box, list []api.Box) (bool, api.Errno) {
			p, e := box.Gap(b, list)
			return p == api.Vec{}, e
		}},
		{"Partition", true, func(b api.Box, list []api.Box) (bool, api.Errno) {
			return true, box.Partition(b, list)
		}},
		{"Total", false, func(_ api.Box, list []api.Box) (bool, api.Errno) {
			n, e := box.Total(list)
			return n == 0, e
		}},
		{"Clash", false, func(_ api.Box, list []api.Box) (bool, api.Errno) {
			i, k, e := box.Clash(list)
			return i == 0 && k == 0, e
		}},
	}
}

// The boxes of the tests of errors: valid, out of range, without points, and both.
func good() api.Box { return from(0, 0, 0, 9, 9, 9) }
func far() api.Box  { return from(0, 0, 0, most+1, 9, 9) }
func flat() api.Box { return from(3, 3, 3, 9, 3, 9) }
func both() api.Box { return from(9, 9, 9, 3, 3, -most-1) }

// P1: the errors of the functions of two boxes are those of the first box with an error.
func TestErrorsOfPairs(t *testing.T) {
	for _, f := range pairCalls() {
		for _, c := range []struct {
			a, b api.Box
			want api.Errno
		}{
			{far(), good(), api.ErrRange},
			{good(), far(), api.ErrRange},
			{flat(), good(), api.ErrInvalid},
			{good(), flat(), api.ErrInvalid},
			{both(), good(), api.ErrRange},
			{good(), both(), api.ErrRange},
			{flat(), far(), api.ErrInvalid},
			{far(), flat(), api.ErrRange},
			{flat(), flat(), api.ErrInvalid},
			{api.Box{}, both(), api.ErrInvalid},
			// They do not overlap, nor touch each other.
			{from(-9, -9, -9, -8, -8, -9), good(), api.ErrInvalid},
			{good(), from(20, 20, 20, 19, 30, 30), api.ErrInvalid},
			{from(math.MinInt, math.MinInt, math.MinInt, math.MaxInt, math.MaxInt, math.MaxInt), good(), api.ErrRange},
			{good(), from(math.MaxInt, math.MaxInt, math.MaxInt, math.MinInt, math.MinInt, math.MinInt), api.ErrRange},
		} {
			if zero, e := f.call(c.a, c.b); e != c.want || !zero {
				t.Errorf("%s of %v and %v: %d, want %d; zero results: %v", f.name, c.a, c.b, e, c.want, zero)
			}
		}
	}
}

// P1: the errors of Move and their order.
func TestErrorsOfMove(t *testing.T) {
	for _, c := range []struct {
		b    api.Box
		by   api.Vec
		want api.Errno
	}{
		{far(), vec(0, 0, 0), api.ErrRange},
		{far(), vec(-1, 0, 0), api.ErrRange},
		{flat(), vec(0, 0, 0), api.ErrInvalid},
		{flat(), vec(most, 0, 0), api.ErrInvalid},
		{both(), vec(0, 0, 0), api.ErrRange},
		{good(), vec(most, 0, 0), api.ErrRange},
		{good(), vec(0, 0, -most-1), api.ErrRange},
	} {
		if got, e := box.Move(c.b, c.by); e != c.want || got != (api.Box{}) {
			t.Errorf("Move of %v by %v: %v, %d, want %d", c.b, c.by, got, e, c.want)
		}
	}
}

// P1: the errors of a list, in their order, with zero results.
func TestErrorsOfLists(t *testing.T) {
	many := func(b api.Box, n int) []api.Box { return slices.Repeat([]api.Box{b}, n) }
	for _, f := range listCalls() {
		for _, c := range []struct {
			list []api.Box
			want api.Errno
		}{
			{many(good(), box.MaxBoxes+1), api.ErrTooMany},
			{many(far(), box.MaxBoxes+1), api.ErrTooMany},
			{many(flat(), box.MaxBoxes+1), api.ErrTooMany},
			{[]api.Box{far()}, api.ErrRange},
			{[]api.Box{good(), good(), far()}, api.ErrRange},
			{[]api.Box{flat(), good()}, api.ErrInvalid},
			{[]api.Box{good(), flat()}, api.ErrInvalid},
			{[]api.Box{both(), flat()}, api.ErrRange},
			{[]api.Box{flat(), far()}, api.ErrInvalid},
			{[]api.Box{good(), far(), flat()}, api.ErrRange},
			{append(many(good(), box.MaxBoxes-1), flat()), api.ErrInvalid},
			{append(many(good(), box.MaxBoxes-1), far()), api.ErrRange},
			// A box that is not valid comes before one that lies outside, and before boxes that overlap.
			{[]api.Box{from(-9, 0, 0, 30, 9, 9), good(), flat()}, api.ErrInvalid},
		} {
			if zero, e := f.call(good(), c.list); e != c.want || !zero {
				t.Errorf("%s of %d boxes: %d, want %d; zero results: %v", f.name, len(c.list), e, c.want, zero)
			}
		}
		if _, e := f.call(space(), many(good(), box.MaxBoxes)); e == api.ErrTooMany {
			t.Errorf("%s of MaxBoxes boxes: %d", f.name, e)
		}
	}
}

// P1: the box before a list is checked before it, but behind its length.
func TestErrorsOfBoxAndList(t *testing.T) {
	long := slices.Repeat([]api.Box{good()}, box.MaxBoxes+1)
	for _, f := range listCalls() {
		if !f.takesBox {
			continue
		}
		for _, c := range []struct {
			b    api.Box
			list []api.Box
			want api.Errno
		}{
			{far(), nil, api.ErrRange},
			{flat(), nil, api.ErrInvalid},
			{both(), nil, api.ErrRange},
			{far(), long, api.ErrTooMany},
			{flat(), long, api.ErrTooMany},
			{far(), []api.Box{flat()}, api.ErrRange},
			{flat(), []api.Box{far()}, api.ErrInvalid},
			{flat(), []api.Box{good()}, api.ErrInvalid},
			{far(), []api.Box{good(), good()}, api.ErrRange},
		} {
			if zero, e := f.call(c.b, c.list); e != c.want || !zero {
				t.Errorf("%s of %v and %d boxes: %d, want %d; zero results: %v", f.name, c.b, len(c.list), e, c.want, zero)
			}
		}
	}
}

// The Rules: arguments are not modified, and results share no memory with them or with each other.
func TestListsAreLeftAlone(t *testing.T) {
	list := []api.Box{from(5, 5, 5, 9, 9, 9), from(-3, -3, -3, 1, 20, 20), from(0, 0, 0, 2, 2, 2), from(7, 0, 0, 8, 9, 9)}
	kept := slices.Clone(list)
	for _, f := range listCalls() {
		f.call(good(), list)
		if !slices.Equal(list, kept) {
			t.Fatalf("%s changed its argument to %v", f.name, list)
		}
	}
	rest, _ := box.Rest(good(), list)
	other, _ := box.Rest(good(), list)
	before := slices.Clone(rest)
	clear(list)
	clear(other)
	if !slices.Equal(rest, before) {
		t.Errorf("Rest shares memory: %v, %v", rest, before)
	}
	whole, _ := box.Rest(good(), nil)
	whole[0] = api.Box{}
	if again, _ := box.Rest(good(), nil); !slices.Equal(again, []api.Box{good()}) {
		t.Errorf("Rest of no boxes: %v", again)
	}
}
