package box_test

import (
	"iter"
	"math/rand"
	"slices"
	"testing"

	"gangsaw/api"
	"gangsaw/box"
)

// boxLists produces lists of small boxes, always the same ones; some of them leave no gap in a box.
func boxLists() iter.Seq[[]api.Box] {
	r := rand.New(rand.NewSource(1))
	side := func(longest int) (int, int) {
		from := r.Intn(9) - 4
		return from, from + 1 + r.Intn(longest)
	}
	return func(yield func([]api.Box) bool) {
		for i := range 3000 {
			var list []api.Box
			for range r.Intn(8) {
				var b api.Box
				b.Min.X, b.Max.X = side(3 + i%6)
				b.Min.Y, b.Max.Y = side(3 + i%6)
				b.Min.Z, b.Max.Z = side(3 + i%6)
				list = append(list, b)
			}
			if !yield(list) {
				return
			}
		}
	}
}

// someBoxes returns MaxBoxes boxes in all of space, always the same ones.
func someBoxes() []api.Box {
	r := rand.New(rand.NewSource(2))
	side := func() (int, int) {
		from := r.Intn(2*most-1) - most
		return from, from + 1 + r.Intn(most-from)
	}
	list := make([]api.Box, box.MaxBoxes)
	for i := range list {
		b := &list[i]
		b.Min.X, b.Max.X = side()
		b.Min.Y, b.Max.Y = side()
		b.Min.Z, b.Max.Z = side()
	}
	return list
}

// P6.5
func TestGap(t *testing.T) {
	b := from(0, 0, 0, 4, 4, 4)
	for _, c := range []struct {
		list []api.Box
		want api.Vec
		code api.Errno
	}{
		{nil, vec(0, 0, 0), api.OK},
		{[]api.Box{from(0, 0, 0, 4, 4, 1), from(0, 0, 1, 3, 4, 4)}, vec(3, 0, 1), api.OK},
		{[]api.Box{from(0, 0, 0, 1, 1, 1)}, vec(1, 0, 0), api.OK},
		{[]api.Box{from(0, 0, 0, 4, 1, 1)}, vec(0, 1, 0), api.OK},
		{[]api.Box{from(0, 0, 0, 4, 4, 1)}, vec(0, 0, 1), api.OK},
		// Of several gaps, z decides, then y, then x.
		{[]api.Box{from(0, 0, 0, 4, 4, 2), from(0, 0, 2, 4, 3, 4), from(0, 3, 2, 2, 4, 3)}, vec(2, 3, 2), api.OK},
		{[]api.Box{from(0, 0, 0, 3, 4, 4), from(3, 0, 0, 4, 3, 4)}, vec(3, 3, 0), api.OK},
		// Boxes beyond b, in part or as a whole.
		{[]api.Box{from(-9, -9, -9, 2, 9, 1), from(2, -9, -9, 9, 2, 9), from(5, 0, 0, 6, 4, 4)}, vec(2, 2, 0), api.OK},
		{[]api.Box{from(4, 0, 0, 8, 4, 4), from(0, 0, -4, 4, 4, 0)}, vec(0, 0, 0), api.OK},
		{[]api.Box{b}, vec(0, 0, 0), api.ErrNone},
		{[]api.Box{space()}, vec(0, 0, 0), api.ErrNone},
		{[]api.Box{from(2, 0, 0, 4, 4, 4), from(0, 0, 0, 2, 4, 4)}, vec(0, 0, 0), api.ErrNone},
		{[]api.Box{from(0, 0, 0, 4, 4, 3), from(0, 0, 2, 4, 2, 4), from(0, 1, 2, 4, 4, 4)}, vec(0, 0, 0), api.ErrNone},
	} {
		if got, e := box.Gap(b, c.list); got != c.want || e != c.code {
			t.Errorf("Gap of %v: %v, %d, want %v, %d", c.list, got, e, c.want, c.code)
		}
	}
	last := vec(most-1, most-1, most-1)
	all := []api.Box{
		from(-most, -most, -most, most, most, most-1),
		from(-most, -most, -most, most, most-1, most),
		from(-most, -most, -most, most-1, most, most),
	}
	if got, e := box.Gap(space(), all); got != last || e != api.OK {
		t.Errorf("Gap of nearly all of space: %v, %d", got, e)
	}
}

// P6.5: Gap and Total by the points of small boxes.
func TestGapAndTotalByPoints(t *testing.T) {
	for list := range boxLists() {
		var total int64
		var gaps []api.Vec
		b := from(-1, -1, -1, 2, 2, 2)
		for p := range cube(-4, 12) {
			if slices.ContainsFunc(list, func(c api.Box) bool { return lies(p, c) }) {
				total++
			} else if lies(p, b) {
				gaps = append(gaps, p)
			}
		}
		if got, e := box.Total(list); got != total || e != api.OK {
			t.Fatalf("Total of %v: %d, %d, want %d", list, got, e, total)
		}
		got, e := box.Gap(b, list)
		if len(gaps) == 0 && (got != api.Vec{} || e != api.ErrNone) || len(gaps) > 0 && (got != gaps[0] || e != api.OK) {
			t.Fatalf("Gap of %v and %v: %v, %d, want the first of %v", b, list, got, e, gaps)
		}
	}
}

// P6.5
func TestTotal(t *testing.T) {
	a, b := from(0, 0, 0, 4, 4, 4), from(2, 2, 2, 6, 6, 6)
	for _, c := range []struct {
		list []api.Box
		want int64
	}{
		{nil, 0},
		{[]api.Box{}, 0},
		{[]api.Box{a}, 64},
		{[]api.Box{a, b, from(0, 0, 0, 1, 1, 1)}, 120},
		{[]api.Box{a, a, a}, 64},
		{[]api.Box{a, from(4, 0, 0, 5, 4, 4)}, 80},
		{[]api.Box{a, from(9, 9, 9, 10, 10, 10)}, 65},
		{[]api.Box{space()}, 8000000000000000000},
		{[]api.Box{space(), a, b, space()}, 8000000000000000000},
		{[]api.Box{from(-most, -most, -most, 1, most, most), from(-1, -most, -most, most, most, most)}, 8000000000000000000},
		{slices.Repeat([]api.Box{space()}, box.MaxBoxes), 8000000000000000000},
	} {
		if got, e := box.Total(c.list); got != c.want || e != api.OK {
			t.Errorf("Total of %v: %d, %d, want %d", c.list, got, e, c.want)
		}
	}
}

// P6.5 and P6.6: as many boxes as are allowed. What each box adds to the total of those before it is what Rest leaves of it.
func TestTotalOfManyBoxes(t *testing.T) {
	list := someBoxes()
	var want int64
	for i, b := range list[:40] {
		rest, e := box.Rest(b, list[:i])
		if e != api.OK {
			t.Fatalf("Rest without %d boxes: %d", i, e)
		}
		for _, part := range rest {
			volume, _ := box.Volume(part)
			want += volume
		}
	}
	if got, e := box.Total(list[:40]); got != want || e != api.OK {
		t.Errorf("Total of 40 boxes: %d, %d, want %d", got, e, want)
	}
	total, e := box.Total(list)
	if e != api.OK || total < want || total > 8000000000000000000 {
		t.Errorf("Total of many boxes: %d, %d", total, e)
	}
	gap, e := box.Gap(space(), list)
	if e != api.OK || slices.ContainsFunc(list, func(b api.Box) bool { return lies(gap, b) }) {
		t.Errorf("Gap of many boxes: %v, %d", gap, e)
	}
}

// P6.5: the pair with the least first index, and of these the one with the least second index.
func TestClash(t *testing.T) {
	at := func(x int) api.Box { return from(x, 0, 0, x+10, 10, 10) }
	for _, c := range []struct {
		list []api.Box
		i, k int
		code api.Errno
	}{
		{nil, 0, 0, api.ErrNone},
		{[]api.Box{at(0)}, 0, 0, api.ErrNone},
		{[]api.Box{at(0), at(10), at(-10)}, 0, 0, api.ErrNone},
		{[]api.Box{at(0), at(0)}, 0, 1, api.OK},
		{[]api.Box{at(0), at(20), at(5)}, 0, 2, api.OK},
		{[]api.Box{at(0), at(20), at(40), at(25), at(45)}, 1, 3, api.OK},
		{[]api.Box{at(0), at(20), at(25), at(5)}, 0, 3, api.OK},
		{[]api.Box{at(0), at(9), at(-9)}, 0, 1, api.OK},
		{[]api.Box{at(0), at(10), from(0, 10, 0, 20, 20, 10), from(0, 9, 9, 20, 10, 10)}, 0, 3, api.OK},
		{[]api.Box{at(-50), at(0), at(10), from(0, 10, 0, 20, 20, 10), from(10, 19, 9, 20, 20, 10)}, 3, 4, api.OK},
	} {
		if i, k, e := box.Clash(c.list); i != c.i || k != c.k || e != c.code {
			t.Errorf("Clash of %v: %d, %d, %d, want %d, %d, %d", c.list, i, k, e, c.i, c.k, c.code)
		}
	}
	many := make([]api.Box, box.MaxBoxes)
	for i := range many {
		many[i] = at(10 * i)
	}
	if i, k, e := box.Clash(many); i != 0 || k != 0 || e != api.ErrNone {
		t.Errorf("Clash of many boxes: %d, %d, %d", i, k, e)
	}
	many[box.MaxBoxes-1] = at(10*(box.MaxBoxes-2) + 9)
	if i, k, e := box.Clash(many); i != box.MaxBoxes-2 || k != box.MaxBoxes-1 || e != api.OK {
		t.Errorf("Clash of the last two boxes: %d, %d, %d", i, k, e)
	}
}

// P6.5
func TestPartition(t *testing.T) {
	b := from(0, 0, 0, 4, 4, 4)
	low, high := from(0, 0, 0, 4, 4, 2), from(0, 0, 2, 4, 4, 4)
	for _, c := range []struct {
		list []api.Box
		want api.Errno
	}{
		{[]api.Box{b}, api.OK},
		{[]api.Box{low, high}, api.OK},
		{[]api.Box{high, low}, api.OK},
		{[]api.Box{from(0, 0, 2, 4, 1, 4), low, from(0, 1, 2, 3, 4, 4), from(3, 1, 2, 4, 4, 4)}, api.OK},
		{[]api.Box{low, from(0, 0, 2, 4, 4, 5)}, api.ErrOutside},
		{[]api.Box{from(-1, 0, 0, 4, 4, 2), high}, api.ErrOutside},
		{[]api.Box{low, high, from(4, 0, 0, 5, 1, 1)}, api.ErrOutside},
		{[]api.Box{b, b}, api.ErrOverlap},
		{[]api.Box{low, high, from(3, 3, 3, 4, 4, 4)}, api.ErrOverlap},
		{nil, api.ErrNone},
		{[]api.Box{low}, api.ErrNone},
		{[]api.Box{low, from(0, 0, 2, 4, 4, 3), from(0, 0, 3, 4, 3, 4), from(1, 3, 3, 4, 4, 4)}, api.ErrNone},
		// Several errors: outside comes first, then overlapping. The volumes are right by chance.
		{[]api.Box{low, low}, api.ErrOverlap},
		{[]api.Box{low, from(0, 0, 4, 4, 4, 6)}, api.ErrOutside},
		{[]api.Box{low, low, from(0, 0, 3, 1, 1, 9)}, api.ErrOutside},
		{[]api.Box{from(0, 0, 0, 1, 1, 1), from(0, 0, 0, 2, 1, 1)}, api.ErrOverlap},
	} {
		if e := box.Partition(b, c.list); e != c.want {
			t.Errorf("Partition of %v: %d, want %d", c.list, e, c.want)
		}
	}
	if e := box.Partition(space(), []api.Box{from(-most, -most, -most, 0, most, most), from(0, -most, -most, most, most, most)}); e != api.OK {
		t.Errorf("Partition of space: %d", e)
	}
	if e := box.Partition(space(), slices.Repeat([]api.Box{space()}, box.MaxBoxes)); e != api.ErrOverlap {
		t.Errorf("Partition of space into many copies: %d", e)
	}
}

// P6.4 and P6.5: a box, and what is left without it, are a partition; without any one of them, they are not.
func TestPartitionOfTheRest(t *testing.T) {
	b := from(-1, -1, -1, 2, 2, 2)
	for _, c := range validBoxes(-1, 2) {
		parts, _ := box.Subtract(b, c)
		parts = append(parts, c)
		if e := box.Partition(b, parts); e != api.OK {
			t.Fatalf("Partition of %v into %v: %d", b, parts, e)
		}
		for i := range parts {
			if e := box.Partition(b, slices.Delete(slices.Clone(parts), i, i+1)); e != api.ErrNone {
				t.Fatalf("Partition of %v into %v without %d: %d", b, parts, i, e)
			}
		}
	}
}
