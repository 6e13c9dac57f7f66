package span_test

import (
	"iter"
	"math/rand"
	"slices"
	"testing"

	"gangsaw/api"
	"gangsaw/span"
)

// numbers returns which numbers from -20 to 20 a list stands for.
func numbers(list []api.Interval) [41]bool {
	var out [41]bool
	for _, a := range list {
		for n := a.Lo; n <= a.Hi; n++ {
			out[n+20] = true
		}
	}
	return out
}

// isNormal reports whether a list is a normal form.
func isNormal(list []api.Interval) bool {
	for i, a := range list {
		if a.Lo > a.Hi || i > 0 && a.Lo < list[i-1].Hi+2 {
			return false
		}
	}
	return true
}

// listPairs produces pairs of lists with numbers from -20 to 20, always the same ones.
func listPairs() iter.Seq2[[]api.Interval, []api.Interval] {
	r := rand.New(rand.NewSource(1))
	list := func() []api.Interval {
		var out []api.Interval
		for range r.Intn(6) {
			lo := r.Intn(41) - 20
			out = append(out, in(lo, min(20, lo+r.Intn(7))))
		}
		return out
	}
	return func(yield func(a, b []api.Interval) bool) {
		for range 2000 {
			if !yield(list(), list()) {
				return
			}
		}
	}
}

// P1.4
func TestNormalize(t *testing.T) {
	for _, c := range []struct{ list, want []api.Interval }{
		{nil, nil},
		{[]api.Interval{}, nil},
		{[]api.Interval{in(5, 7), in(1, 2), in(3, 3)}, []api.Interval{in(1, 3), in(5, 7)}},
		{[]api.Interval{in(1, 2), in(4, 5)}, []api.Interval{in(1, 2), in(4, 5)}},
		{[]api.Interval{in(1, 2), in(3, 5)}, []api.Interval{in(1, 5)}},
		{[]api.Interval{in(3, 5), in(1, 9)}, []api.Interval{in(1, 9)}},
		{[]api.Interval{in(1, 9), in(3, 5), in(8, 8), in(10, 10)}, []api.Interval{in(1, 10)}},
		{[]api.Interval{in(2, 2), in(2, 2), in(2, 2)}, []api.Interval{in(2, 2)}},
		{[]api.Interval{in(most, most), in(-most, -most)}, []api.Interval{in(-most, -most), in(most, most)}},
		{[]api.Interval{in(0, most), in(-most, -1)}, []api.Interval{in(-most, most)}},
	} {
		if got, e := span.Normalize(c.list); !slices.Equal(got, c.want) || e != api.OK {
			t.Errorf("Normalize of %v: %v, %d, want %v", c.list, got, e, c.want)
		}
	}
}

// P1.4
func TestUnionMinusCommon(t *testing.T) {
	for _, c := range []struct{ a, b, union, minus, common []api.Interval }{
		{nil, nil, nil, nil, nil},
		{[]api.Interval{in(1, 9)}, nil, []api.Interval{in(1, 9)}, []api.Interval{in(1, 9)}, nil},
		{nil, []api.Interval{in(1, 9)}, []api.Interval{in(1, 9)}, nil, nil},
		{
			[]api.Interval{in(1, 9)}, []api.Interval{in(3, 3), in(6, 7)},
			[]api.Interval{in(1, 9)}, []api.Interval{in(1, 2), in(4, 5), in(8, 9)}, []api.Interval{in(3, 3), in(6, 7)},
		},
		{
			[]api.Interval{in(1, 4), in(6, 9)}, []api.Interval{in(3, 7)},
			[]api.Interval{in(1, 9)}, []api.Interval{in(1, 2), in(8, 9)}, []api.Interval{in(3, 4), in(6, 7)},
		},
		{
			[]api.Interval{in(5, 6), in(1, 4)}, []api.Interval{in(4, 4), in(5, 5)},
			[]api.Interval{in(1, 6)}, []api.Interval{in(1, 3), in(6, 6)}, []api.Interval{in(4, 5)},
		},
		{
			[]api.Interval{in(1, 2)}, []api.Interval{in(3, 4)},
			[]api.Interval{in(1, 4)}, []api.Interval{in(1, 2)}, nil,
		},
		{
			[]api.Interval{in(-most, most)}, []api.Interval{in(-most, -most), in(0, 0), in(most, most)},
			[]api.Interval{in(-most, most)}, []api.Interval{in(-most+1, -1), in(1, most-1)},
			[]api.Interval{in(-most, -most), in(0, 0), in(most, most)},
		},
		{
			[]api.Interval{in(-most, most)}, []api.Interval{in(-most+1, most-1)},
			[]api.Interval{in(-most, most)}, []api.Interval{in(-most, -most), in(most, most)},
			[]api.Interval{in(-most+1, most-1)},
		},
		{
			[]api.Interval{in(0, most)}, []api.Interval{in(-most, most)},
			[]api.Interval{in(-most, most)}, nil, []api.Interval{in(0, most)},
		},
	} {
		if got, e := span.Union(c.a, c.b); !slices.Equal(got, c.union) || e != api.OK {
			t.Errorf("Union of %v and %v: %v, %d, want %v", c.a, c.b, got, e, c.union)
		}
		if got, e := span.Minus(c.a, c.b); !slices.Equal(got, c.minus) || e != api.OK {
			t.Errorf("Minus of %v and %v: %v, %d, want %v", c.a, c.b, got, e, c.minus)
		}
		if got, e := span.Common(c.a, c.b); !slices.Equal(got, c.common) || e != api.OK {
			t.Errorf("Common of %v and %v: %v, %d, want %v", c.a, c.b, got, e, c.common)
		}
	}
}

// P1.4
func TestCount(t *testing.T) {
	for _, c := range []struct {
		list []api.Interval
		want int
	}{
		{nil, 0},
		{[]api.Interval{in(1, 5), in(4, 9)}, 9},
		{[]api.Interval{in(4, 9), in(1, 5)}, 9},
		{[]api.Interval{in(1, 2), in(4, 4)}, 3},
		{[]api.Interval{in(1, 2), in(1, 2)}, 2},
		{[]api.Interval{in(-most, most), in(0, 0)}, 2*most + 1},
	} {
		if got, e := span.Count(c.list); got != c.want || e != api.OK {
			t.Errorf("Count of %v: %d, %d, want %d", c.list, got, e, c.want)
		}
	}
}

// P1.4: every result is in normal form and stands for the right numbers.
func TestSetsByNumbers(t *testing.T) {
	for a, b := range listPairs() {
		inA, inB := numbers(a), numbers(b)
		for _, c := range []struct {
			name    string
			compute func(a, b []api.Interval) ([]api.Interval, api.Errno)
			want    func(inA, inB bool) bool
		}{
			{"Union", span.Union, func(inA, inB bool) bool { return inA || inB }},
			{"Minus", span.Minus, func(inA, inB bool) bool { return inA && !inB }},
			{"Common", span.Common, func(inA, inB bool) bool { return inA && inB }},
		} {
			got, e := c.compute(a, b)
			if e != api.OK || !isNormal(got) {
				t.Fatalf("%s of %v and %v: %v, %d", c.name, a, b, got, e)
			}
			for i, is := range numbers(got) {
				if is != c.want(inA[i], inB[i]) {
					t.Fatalf("%s of %v and %v: %v is wrong at %d", c.name, a, b, got, i-20)
				}
			}
		}
		n, e := span.Normalize(a)
		if e != api.OK || !isNormal(n) || numbers(n) != inA {
			t.Fatalf("Normalize of %v: %v, %d", a, n, e)
		}
	}
}

// P1.5
func TestSetProperties(t *testing.T) {
	count := func(list []api.Interval) int { n, _ := span.Count(list); return n }
	for a, b := range listPairs() {
		normalA, _ := span.Normalize(a)
		normalB, _ := span.Normalize(b)
		if slices.Equal(normalA, normalB) != (numbers(a) == numbers(b)) {
			t.Fatalf("the normal forms of %v and %v: %v and %v", a, b, normalA, normalB)
		}
		union, _ := span.Union(a, b)
		minus, _ := span.Minus(a, b)
		common, _ := span.Common(a, b)
		if again, _ := span.Union(minus, common); !slices.Equal(again, normalA) {
			t.Fatalf("Minus and Common of %v and %v: %v and %v", a, b, minus, common)
		}
		if count(union) != count(a)+count(b)-count(common) {
			t.Fatalf("Count of the union of %v and %v: %d", a, b, count(union))
		}
		back := slices.Clone(a)
		slices.Reverse(back)
		if n, _ := span.Normalize(back); !slices.Equal(n, normalA) {
			t.Fatalf("the order of %v matters", a)
		}
	}
}

// P1.5: lists that stand for the same set have one normal form, however the set is divided.
func TestOneNormalFormForEachSet(t *testing.T) {
	forms := map[[41]bool][]api.Interval{}
	for a := range validIntervals(0, 3) {
		for b := range validIntervals(0, 3) {
			for c := range validIntervals(0, 3) {
				list := []api.Interval{a, b, c}
				got, _ := span.Normalize(list)
				set := numbers(list)
				if known, ok := forms[set]; ok && !slices.Equal(known, got) {
					t.Fatalf("%v and %v stand for the same set", known, got)
				}
				forms[set] = got
			}
		}
	}
}

func TestLongLists(t *testing.T) {
	odd, even := make([]api.Interval, span.MaxList), make([]api.Interval, span.MaxList)
	for i := range span.MaxList {
		odd[i] = in(4*i+1, 4*i+1)
		even[i] = in(4*i+3, 4*i+3)
	}
	got, e := span.Union(odd, even)
	if e != api.OK || len(got) != 2*span.MaxList || !isNormal(got) {
		t.Errorf("Union of lists of %d: %d intervals, %d", span.MaxList, len(got), e)
	}
	if got, e := span.Minus([]api.Interval{in(0, most)}, odd); e != api.OK || len(got) != span.MaxList+1 {
		t.Errorf("Minus of a list of %d: %d intervals, %d", span.MaxList, len(got), e)
	}
}
