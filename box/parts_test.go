package box_test

import (
	"slices"
	"testing"

	"gangsaw/api"
	"gangsaw/box"
)

// left follows the definition: the points of the parts of a without b, in their order, as far as a part has points.
func left(a, b api.Box, lo, hi int) [][]api.Vec {
	inA := points(a, lo, hi)
	both := slices.DeleteFunc(slices.Clone(inA), func(p api.Vec) bool { return !lies(p, b) })
	if len(both) == 0 {
		return [][]api.Vec{inA}
	}
	c, last := both[0], both[len(both)-1]
	inZ := func(p api.Vec) bool { return c.Z <= p.Z && p.Z <= last.Z }
	inY := func(p api.Vec) bool { return inZ(p) && c.Y <= p.Y && p.Y <= last.Y }
	var out [][]api.Vec
	for _, is := range []func(p api.Vec) bool{
		func(p api.Vec) bool { return p.Z < c.Z },
		func(p api.Vec) bool { return p.Z > last.Z },
		func(p api.Vec) bool { return inZ(p) && p.Y < c.Y },
		func(p api.Vec) bool { return inZ(p) && p.Y > last.Y },
		func(p api.Vec) bool { return inY(p) && p.X < c.X },
		func(p api.Vec) bool { return inY(p) && p.X > last.X },
	} {
		part := slices.DeleteFunc(slices.Clone(inA), func(p api.Vec) bool { return !is(p) })
		if len(part) > 0 {
			out = append(out, part)
		}
	}
	return out
}

// P6.4
func TestSubtract(t *testing.T) {
	a := from(0, 0, 0, 4, 4, 4)
	for _, c := range []struct {
		a, b api.Box
		want []api.Box
	}{
		{a, from(2, 2, 2, 6, 6, 6), []api.Box{from(0, 0, 0, 4, 4, 2), from(0, 0, 2, 4, 2, 4), from(0, 2, 2, 2, 4, 4)}},
		// All six parts.
		{a, from(1, 1, 1, 3, 3, 3), []api.Box{
			from(0, 0, 0, 4, 4, 1), from(0, 0, 3, 4, 4, 4), from(0, 0, 1, 4, 1, 3),
			from(0, 3, 1, 4, 4, 3), from(0, 1, 1, 1, 3, 3), from(3, 1, 1, 4, 3, 3),
		}},
		{a, from(-2, -2, -2, 2, 2, 2), []api.Box{from(0, 0, 2, 4, 4, 4), from(0, 2, 0, 4, 4, 2), from(2, 0, 0, 4, 2, 2)}},
		// A plate is taken out.
		{a, from(-9, -9, 1, 9, 9, 2), []api.Box{from(0, 0, 0, 4, 4, 1), from(0, 0, 2, 4, 4, 4)}},
		{a, from(1, -9, -9, 2, 9, 9), []api.Box{from(0, 0, 0, 1, 4, 4), from(2, 0, 0, 4, 4, 4)}},
		// Nothing in common: a alone, also where they touch each other.
		{a, from(4, 0, 0, 5, 4, 4), []api.Box{a}},
		{a, from(7, 7, 7, 9, 9, 9), []api.Box{a}},
		// Nothing is left.
		{a, a, nil},
		{a, space(), nil},
		{space(), from(-most, -most, -most, most, most, most-1), []api.Box{from(-most, -most, most-1, most, most, most)}},
	} {
		if got, e := box.Subtract(c.a, c.b); !slices.Equal(got, c.want) || e != api.OK {
			t.Errorf("Subtract of %v and %v: %v, %d, want %v", c.a, c.b, got, e, c.want)
		}
	}
}

// P6.4 and P6.6: by the definition, for all pairs of small boxes; volumes add up.
func TestSubtractByPoints(t *testing.T) {
	all := validBoxes(0, 3)
	for _, a := range all {
		for _, b := range all {
			got, e := box.Subtract(a, b)
			want := left(a, b, 0, 2)
			if e != api.OK || len(got) != len(want) {
				t.Fatalf("Subtract of %v and %v: %v, %d", a, b, got, e)
			}
			sum := 0
			for i, part := range got {
				if !slices.Equal(points(part, -1, 4), want[i]) {
					t.Fatalf("Subtract of %v and %v: %v, but %v at %d", a, b, got, want[i], i)
				}
				sum += len(want[i])
			}
			volume, _ := box.Volume(a)
			if c, e := box.Intersect(a, b); e == api.OK {
				common, _ := box.Volume(c)
				volume -= common
			}
			if sum != int(volume) {
				t.Fatalf("Subtract of %v and %v: a volume of %d, want %d", a, b, sum, volume)
			}
		}
	}
}

// P6.4
func TestRest(t *testing.T) {
	b := from(0, 0, 0, 4, 4, 4)
	for _, c := range []struct{ list, want []api.Box }{
		{nil, []api.Box{b}},
		{[]api.Box{}, []api.Box{b}},
		{[]api.Box{from(4, 0, 0, 5, 4, 4)}, []api.Box{b}},
		{[]api.Box{b}, nil},
		{[]api.Box{b, b}, nil},
		{[]api.Box{from(2, 2, 2, 6, 6, 6)}, []api.Box{from(0, 0, 0, 4, 4, 2), from(0, 0, 2, 4, 2, 4), from(0, 2, 2, 2, 4, 4)}},
		// The parts of each box stand where it stood; the order of the list matters.
		{
			[]api.Box{from(0, 0, 1, 4, 4, 2), from(1, 0, 0, 2, 4, 4)},
			[]api.Box{from(0, 0, 0, 1, 4, 1), from(2, 0, 0, 4, 4, 1), from(0, 0, 2, 1, 4, 4), from(2, 0, 2, 4, 4, 4)},
		},
		{
			[]api.Box{from(1, 0, 0, 2, 4, 4), from(0, 0, 1, 4, 4, 2)},
			[]api.Box{from(0, 0, 0, 1, 4, 1), from(0, 0, 2, 1, 4, 4), from(2, 0, 0, 4, 4, 1), from(2, 0, 2, 4, 4, 4)},
		},
		{[]api.Box{from(0, 0, 0, 4, 4, 1), from(0, 0, 1, 3, 4, 4)}, []api.Box{from(3, 0, 1, 4, 4, 4)}},
	} {
		if got, e := box.Rest(b, c.list); !slices.Equal(got, c.want) || e != api.OK {
			t.Errorf("Rest of %v: %v, %d, want %v", c.list, got, e, c.want)
		}
	}
}

// P6.4 and P6.6: Rest is Subtract, box for box; each point of the rest lies in one of its boxes.
func TestRestBySubtract(t *testing.T) {
	for list := range boxLists() {
		b := from(-3, -3, -3, 3, 3, 3)
		want := []api.Box{b}
		for _, c := range list {
			var next []api.Box
			for _, part := range want {
				parts, _ := box.Subtract(part, c)
				next = append(next, parts...)
			}
			want = next
		}
		got, e := box.Rest(b, list)
		if e != api.OK || !slices.Equal(got, want) {
			t.Fatalf("Rest of %v: %v, %d, want %v", list, got, e, want)
		}
		for p := range cube(-4, 4) {
			n := 0
			for _, part := range got {
				if lies(p, part) {
					n++
				}
			}
			isLeft := lies(p, b) && !slices.ContainsFunc(list, func(c api.Box) bool { return lies(p, c) })
			if isLeft && n != 1 || !isLeft && n != 0 {
				t.Fatalf("Rest of %v: %v has %v %d times", list, got, p, n)
			}
		}
	}
}

// plates returns plates that cut the box from 0, 0, 0 to 100, 100, 100 into (x + 1) (y + 1) (z + 1) pieces.
func plates(x, y, z int) []api.Box {
	var list []api.Box
	for i := range x {
		list = append(list, from(5*i+3, 0, 0, 5*i+5, 100, 100))
	}
	for i := range y {
		list = append(list, from(0, 5*i+3, 0, 100, 5*i+5, 100))
	}
	for i := range z {
		list = append(list, from(0, 0, 5*i+3, 100, 100, 5*i+5))
	}
	return list
}

// P6.4 and P1: Rest may have MaxPieces boxes, but not more: neither finally nor behind a box of the list, although fewer are left then.
func TestRestOfManyPieces(t *testing.T) {
	b := from(0, 0, 0, 100, 100, 100)
	// This box takes away 27 of the pieces, and 37 others are cut by its sides: the first of them into three.
	hole := from(2, 2, 2, 19, 19, 19)
	for _, c := range []struct {
		list []api.Box
		want int
		code api.Errno
	}{
		{plates(15, 15, 15), 4096, api.OK},
		{append(plates(15, 15, 15), hole), 4096 - 64 + 3 + 9*2 + 27, api.OK},
		{append(plates(15, 15, 15), b), 0, api.OK},
		{append(plates(15, 15, 15), from(1, 1, 1, 2, 2, 2)), 0, api.ErrTooMany},
		{append(plates(15, 15, 15), from(1, 1, 1, 2, 2, 2), b), 0, api.ErrTooMany},
		{plates(16, 15, 15), 0, api.ErrTooMany},
		{append(plates(16, 15, 15), b), 0, api.ErrTooMany},
		{append(plates(15, 15, 15), from(0, 1, 0, 1, 2, 3)), 0, api.ErrTooMany},
		{append(plates(15, 15, 15), from(0, 0, 0, 1, 3, 3)), 4096, api.OK},
	} {
		if got, e := box.Rest(b, c.list); len(got) != c.want || e != c.code {
			t.Errorf("Rest of %d boxes: %d boxes, %d, want %d, %d", len(c.list), len(got), e, c.want, c.code)
		}
	}
}
