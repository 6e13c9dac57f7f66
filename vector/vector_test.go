package vector_test

import (
	"iter"
	"math"
	"math/big"
	"slices"
	"testing"

	"gangsaw/api"
	"gangsaw/vector"
)

const most = api.MaxCoord

func vec(x, y, z int) api.Vec { return api.Vec{X: x, Y: y, Z: z} }

// cube produces all vectors with coordinates from the list.
func cube(list ...int) iter.Seq[api.Vec] {
	return func(yield func(api.Vec) bool) {
		for _, x := range list {
			for _, y := range list {
				for _, z := range list {
					if !yield(vec(x, y, z)) {
						return
					}
				}
			}
		}
	}
}

func bigs(v api.Vec) [3]*big.Int {
	return [3]*big.Int{big.NewInt(int64(v.X)), big.NewInt(int64(v.Y)), big.NewInt(int64(v.Z))}
}

func times(a, b *big.Int) *big.Int { return new(big.Int).Mul(a, b) }

func bigDot(a, b api.Vec) *big.Int {
	u, v := bigs(a), bigs(b)
	sum := times(u[0], v[0])
	sum.Add(sum, times(u[1], v[1]))
	return sum.Add(sum, times(u[2], v[2]))
}

// P3.1
func TestCheck(t *testing.T) {
	for _, v := range []api.Vec{
		{}, vec(1, -2, 3), vec(most, most, most), vec(-most, -most, -most), vec(-most, 0, most),
	} {
		if e := vector.Check(v); e != api.OK {
			t.Errorf("Check of %v: %d", v, e)
		}
	}
	for _, x := range []int{most + 1, -most - 1, math.MaxInt, math.MinInt, 1 << 32, 1<<32 + 1} {
		for _, v := range []api.Vec{vec(x, 0, 0), vec(0, x, 0), vec(0, 0, x), vec(x, x, x)} {
			if e := vector.Check(v); e != api.ErrRange {
				t.Errorf("Check of %v: %d", v, e)
			}
		}
	}
}

// P3.1
func TestAddAndSub(t *testing.T) {
	for _, c := range []struct {
		a, b             api.Vec
		sum, difference  api.Vec
		sumCode, subCode api.Errno
	}{
		{vec(1, 2, 3), vec(4, 5, 6), vec(5, 7, 9), vec(-3, -3, -3), api.OK, api.OK},
		{vec(0, 0, 0), vec(0, 0, 0), vec(0, 0, 0), vec(0, 0, 0), api.OK, api.OK},
		{vec(-1, 20, -300), vec(7, -8, 9), vec(6, 12, -291), vec(-8, 28, -309), api.OK, api.OK},
		{vec(most-1, 0, 0), vec(1, 0, 0), vec(most, 0, 0), vec(most-2, 0, 0), api.OK, api.OK},
		{vec(most, 0, 0), vec(1, 0, 0), api.Vec{}, vec(most-1, 0, 0), api.ErrRange, api.OK},
		{vec(0, most, 0), vec(0, 1, 0), api.Vec{}, vec(0, most-1, 0), api.ErrRange, api.OK},
		{vec(5, 5, most), vec(5, 5, 1), api.Vec{}, vec(0, 0, most-1), api.ErrRange, api.OK},
		{vec(-most, 0, 0), vec(1, 0, 0), vec(1-most, 0, 0), api.Vec{}, api.OK, api.ErrRange},
		{vec(0, -most, 0), vec(0, 1, 0), vec(0, 1-most, 0), api.Vec{}, api.OK, api.ErrRange},
		{vec(5, 5, -most), vec(5, 5, 1), vec(10, 10, 1-most), api.Vec{}, api.OK, api.ErrRange},
		{vec(most, most, most), vec(-most, -most, -most), vec(0, 0, 0), api.Vec{}, api.OK, api.ErrRange},
		{vec(most, -most, 0), vec(most, -most, 0), api.Vec{}, vec(0, 0, 0), api.ErrRange, api.OK},
	} {
		if got, e := vector.Add(c.a, c.b); got != c.sum || e != c.sumCode {
			t.Errorf("Add of %v and %v: %v, %d, want %v, %d", c.a, c.b, got, e, c.sum, c.sumCode)
		}
		if got, e := vector.Sub(c.a, c.b); got != c.difference || e != c.subCode {
			t.Errorf("Sub of %v and %v: %v, %d, want %v, %d", c.a, c.b, got, e, c.difference, c.subCode)
		}
	}
}

// P3.1: the order is that of the coordinates, one after the other, for any vectors.
func TestCompare(t *testing.T) {
	var list []api.Vec
	for v := range cube(math.MinInt, -most-1, -1, 0, 1, most+1, math.MaxInt) {
		list = append(list, v)
	}
	for i, a := range list {
		for k, b := range list {
			want := 0
			if i < k {
				want = -1
			} else if i > k {
				want = 1
			}
			if got := vector.Compare(a, b); got != want {
				t.Fatalf("Compare of %v and %v: %d, want %d", a, b, got, want)
			}
		}
	}
	if vector.Compare(vec(1, 9, 9), vec(2, 0, 0)) != -1 || vector.Compare(vec(1, 2, 3), vec(1, 2, 2)) != 1 {
		t.Error("Compare of vectors that differ in several coordinates")
	}
}

// P3.2
func TestDotCrossAndDistance(t *testing.T) {
	for _, c := range []struct {
		a, b     api.Vec
		dot      int64
		cross    [3]int64
		distance int64
	}{
		{vec(1, 2, 3), vec(4, 5, 6), 32, [3]int64{-3, 6, -3}, 27},
		{vec(0, 0, 0), vec(1, 2, 2), 0, [3]int64{0, 0, 0}, 9},
		{vec(1, 0, 0), vec(0, 1, 0), 0, [3]int64{0, 0, 1}, 2},
		{vec(0, 1, 0), vec(0, 0, 1), 0, [3]int64{1, 0, 0}, 2},
		{vec(0, 0, 1), vec(1, 0, 0), 0, [3]int64{0, 1, 0}, 2},
		{vec(2, -3, 5), vec(2, -3, 5), 38, [3]int64{0, 0, 0}, 0},
		{vec(most, most, most), vec(-most, -most, -most), -3000000000000, [3]int64{0, 0, 0}, 12000000000000},
		{vec(most, most, -most), vec(-most, most, most), -1000000000000, [3]int64{2000000000000, 0, 2000000000000}, 8000000000000},
	} {
		if got, e := vector.Dot(c.a, c.b); got != c.dot || e != api.OK {
			t.Errorf("Dot of %v and %v: %d, %d, want %d", c.a, c.b, got, e, c.dot)
		}
		if got, e := vector.Cross(c.a, c.b); got != c.cross || e != api.OK {
			t.Errorf("Cross of %v and %v: %v, %d, want %v", c.a, c.b, got, e, c.cross)
		}
		if got, e := vector.Distance(c.a, c.b); got != c.distance || e != api.OK {
			t.Errorf("Distance of %v and %v: %d, %d, want %d", c.a, c.b, got, e, c.distance)
		}
	}
}

// P3.2: the products are exact, up to the greatest coordinates.
func TestProductsByBigIntegers(t *testing.T) {
	for a := range cube(-most, -most+1, -7, 0, 3, 65537, most) {
		for b := range cube(-most, -46341, 0, 2, most-1) {
			dot, e := vector.Dot(a, b)
			if want := bigDot(a, b); e != api.OK || want.Cmp(big.NewInt(dot)) != 0 {
				t.Fatalf("Dot of %v and %v: %d, %d, want %v", a, b, dot, e, want)
			}
			way := vec(a.X-b.X, a.Y-b.Y, a.Z-b.Z)
			distance, e := vector.Distance(a, b)
			if want := bigDot(way, way); e != api.OK || want.Cmp(big.NewInt(distance)) != 0 {
				t.Fatalf("Distance of %v and %v: %d, %d, want %v", a, b, distance, e, want)
			}
			u, v := bigs(a), bigs(b)
			cross, e := vector.Cross(a, b)
			for i, pair := range [3][2]int{{1, 2}, {2, 0}, {0, 1}} {
				p, q := pair[0], pair[1]
				want := new(big.Int).Sub(times(u[p], v[q]), times(u[q], v[p]))
				if e != api.OK || want.Cmp(big.NewInt(cross[i])) != 0 {
					t.Fatalf("Cross of %v and %v: %v, %d, want %v at %d", a, b, cross, e, want, i)
				}
			}
		}
	}
}

// P3.3
func TestPrimitive(t *testing.T) {
	for _, c := range []struct {
		v, want api.Vec
		factor  int
	}{
		{vec(6, -9, 0), vec(2, -3, 0), 3},
		{vec(1, 0, 0), vec(1, 0, 0), 1},
		{vec(0, -5, 0), vec(0, -1, 0), 5},
		{vec(0, 0, -most), vec(0, 0, -1), most},
		{vec(-4, -6, -8), vec(-2, -3, -4), 2},
		{vec(6, 10, 15), vec(6, 10, 15), 1},
		{vec(12, 18, 27), vec(4, 6, 9), 3},
		{vec(0, 14, -21), vec(0, 2, -3), 7},
		{vec(most, -most, most), vec(1, -1, 1), most},
		{vec(most, most-1, 0), vec(most, most-1, 0), 1},
	} {
		if got, factor, e := vector.Primitive(c.v); got != c.want || factor != c.factor || e != api.OK {
			t.Errorf("Primitive of %v: %v, %d, %d, want %v, %d", c.v, got, factor, e, c.want, c.factor)
		}
	}
	if got, factor, e := vector.Primitive(api.Vec{}); got != (api.Vec{}) || factor != 0 || e != api.ErrInvalid {
		t.Errorf("Primitive of the zero vector: %v, %d, %d", got, factor, e)
	}
}

// P3.3: the factor is at least 1, leads back to v, and leaves no common divisor.
func TestPrimitiveOfSmallVectors(t *testing.T) {
	for v := range cube(-12, -9, -4, -1, 0, 1, 2, 6, 8, 9) {
		if v == (api.Vec{}) {
			continue
		}
		got, factor, e := vector.Primitive(v)
		if e != api.OK || factor < 1 || vec(got.X*factor, got.Y*factor, got.Z*factor) != v {
			t.Fatalf("Primitive of %v: %v, %d, %d", v, got, factor, e)
		}
		for d := 2; d <= 12; d++ {
			if got.X%d == 0 && got.Y%d == 0 && got.Z%d == 0 {
				t.Fatalf("Primitive of %v: %v has the divisor %d", v, got, d)
			}
		}
	}
}

// vectorCall is a function of one or two vectors, all its results but the error in a slice.
type vectorCall struct {
	name string
	call func(a, b api.Vec) ([]any, []any, api.Errno)
}

func vectorCalls() []vectorCall {
	return []vectorCall{
		{"Check", func(a, b api.Vec) ([]any, []any, api.Errno) {
			return nil, nil, max(vector.Check(a), vector.Check(b))
		}},
		{"Add", func(a, b api.Vec) ([]any, []any, api.Errno) {
			v, e := vector.Add(a, b)
			return []any{v}, []any{api.Vec{}}, e
		}},
		{"Sub", func(a, b api.Vec) ([]any, []any, api.Errno) {
			v, e := vector.Sub(a, b)
			return []any{v}, []any{api.Vec{}}, e
		}},
		{"Dot", func(a, b api.Vec) ([]any, []any, api.Errno) {
			n, e := vector.Dot(a, b)
			return []any{n}, []any{int64(0)}, e
		}},
		{"Cross", func(a, b api.Vec) ([]any, []any, api.Errno) {
			v, e := vector.Cross(a, b)
			return []any{v}, []any{[3]int64{}}, e
		}},
		{"Distance", func(a, b api.Vec) ([]any, []any, api.Errno) {
			n, e := vector.Distance(a, b)
			return []any{n}, []any{int64(0)}, e
		}},
	}
}

// P1: an argument out of range is refused by every function but Compare, with zero results; so is one whose result would be in range.
func TestVectorsOutOfRange(t *testing.T) {
	for _, x := range []int{most + 1, -most - 1, math.MaxInt, math.MinInt} {
		for _, bad := range []api.Vec{vec(x, 0, 0), vec(0, x, 0), vec(0, 0, x), vec(x, x, x), vec(x, 0, -x)} {
			for _, f := range vectorCalls() {
				for _, c := range [][2]api.Vec{{bad, {}}, {{}, bad}, {bad, bad}, {bad, vec(5, 5, 5)}, {vec(-1, -1, -1), bad}} {
					got, zero, e := f.call(c[0], c[1])
					if e != api.ErrRange || !slices.Equal(got, zero) {
						t.Errorf("%s of %v and %v: %v, %d", f.name, c[0], c[1], got, e)
					}
				}
			}
			if got, factor, e := vector.Primitive(bad); got != (api.Vec{}) || factor != 0 || e != api.ErrRange {
				t.Errorf("Primitive of %v: %v, %d, %d", bad, got, factor, e)
			}
		}
	}
}

// P3.6
func TestPropertiesOfVectors(t *testing.T) {
	const far = most / 2
	for a := range cube(-far, -3, 0, 1, far) {
		for b := range cube(-far, -2, 0, 5, far) {
			sum, _ := vector.Add(a, b)
			if back, e := vector.Sub(sum, b); back != a || e != api.OK {
				t.Fatalf("Sub of Add of %v and %v: %v, %d", a, b, back, e)
			}
			difference, _ := vector.Sub(a, b)
			if back, e := vector.Add(difference, b); back != a || e != api.OK {
				t.Fatalf("Add of Sub of %v and %v: %v, %d", a, b, back, e)
			}
			cross, _ := vector.Cross(a, b)
			for _, v := range []api.Vec{a, b} {
				c := bigs(v)
				sum := new(big.Int)
				for i := range c {
					sum.Add(sum, times(c[i], big.NewInt(cross[i])))
				}
				if sum.Sign() != 0 {
					t.Fatalf("Cross of %v and %v: %v is not orthogonal to %v", a, b, cross, v)
				}
			}
			if other, _ := vector.Cross(b, a); other != [3]int64{-cross[0], -cross[1], -cross[2]} {
				t.Fatalf("Cross of %v and %v: %v and %v", a, b, cross, other)
			}
		}
		once, _, e := vector.Primitive(a)
		twice, factor, _ := vector.Primitive(once)
		if e == api.OK && (twice != once || factor != 1) {
			t.Fatalf("Primitive of %v: %v, of this: %v, %d", a, once, twice, factor)
		}
	}
}
