package plane_test

import (
	"math/big"
	"testing"

	"gangsaw/api"
	"gangsaw/plane"
)

// P7.3
func TestNormal(t *testing.T) {
	for _, c := range []struct{ h, want api.Half }{
		{half(2, 0, 4, 7), half(1, 0, 2, 3)},
		{half(2, 0, 4, 6), half(1, 0, 2, 3)},
		{half(2, 0, 4, -6), half(1, 0, 2, -3)},
		{half(2, 0, 4, -7), half(1, 0, 2, -4)},
		{half(2, 0, 4, -1), half(1, 0, 2, -1)},
		{half(2, 0, 4, 1), half(1, 0, 2, 0)},
		{half(1, 0, 2, 7), half(1, 0, 2, 7)},
		{half(-6, 9, -12, 10), half(-2, 3, -4, 3)},
		{half(-6, 9, -12, -10), half(-2, 3, -4, -4)},
		{half(0, 0, -1000, 1), half(0, 0, -1, 0)},
		{half(0, 0, -1000, -1), half(0, 0, -1, -1)},
		{half(0, 1000, 0, far), half(0, 1, 0, 4000000)},
		{half(0, 1000, 0, -far), half(0, 1, 0, -4000000)},
		{half(1000, -1000, 1000, 1-far), half(1, -1, 1, -4000000)},
		{half(1000, -1000, 1000, far-1), half(1, -1, 1, 3999999)},
		{half(1000, 999, 0, far), half(1000, 999, 0, far)},
		{half(6, 10, 15, 29), half(6, 10, 15, 29)},
		// The numbers have a common factor, but the coefficients have not.
		{half(1, 0, 0, -far), half(1, 0, 0, -far)},
	} {
		if got, e := plane.Normal(c.h); got != c.want || e != api.OK {
			t.Errorf("Normal of %v: %v, %d, want %v", c.h, got, e, c.want)
		}
	}
}

// P7.3 and P7.5: normal forms have no common factor and are their own normal forms; the points are the same.
func TestNormalByPoints(t *testing.T) {
	for h := range halves(4, 9) {
		n, e := plane.Normal(h)
		if e != api.OK || n.A*h.B != n.B*h.A || n.B*h.C != n.C*h.B || n.A*h.C != n.C*h.A {
			t.Fatalf("Normal of %v: %v, %d", h, n, e)
		}
		factor := new(big.Int)
		for _, c := range []int{n.A, n.B, n.C} {
			factor.GCD(nil, nil, factor, big.NewInt(int64(max(c, -c))))
		}
		if again, _ := plane.Normal(n); factor.Int64() != 1 || again != n {
			t.Fatalf("Normal of %v: %v with the factor %v, and its normal form: %v", h, n, factor, again)
		}
		for p := range cube(-3, 3) {
			if (value(h, p) <= 0) != (value(n, p) <= 0) {
				t.Fatalf("%v and its normal form %v differ at %v", h, n, p)
			}
		}
	}
}

// P7.3
func TestEqualAndWithin(t *testing.T) {
	for _, c := range []struct {
		a, b          api.Half
		equal, within bool
	}{
		{half(1, 0, 2, 10), half(1, 0, 2, 10), true, true},
		{half(2, 0, 4, 7), half(1, 0, 2, 3), true, true},
		{half(2, 0, 4, 7), half(3, 0, 6, 11), true, true},
		{half(2, 0, 4, -1), half(5, 0, 10, -5), true, true},
		{half(2, 0, 4, -1), half(5, 0, 10, -4), true, true},
		{half(2, 0, 4, -1), half(5, 0, 10, 0), false, true},
		{half(5, 0, 10, 0), half(2, 0, 4, -1), false, false},
		{half(2, 0, 4, 7), half(1, 0, 2, 4), false, true},
		{half(1, 0, 2, 4), half(2, 0, 4, 7), false, false},
		// The same plane from both sides, and parallel ones.
		{half(1, 0, 0, 0), half(-1, 0, 0, 0), false, false},
		{half(1, 0, 0, -5), half(-1, 0, 0, -5), false, false},
		{half(1, 0, 0, -5), half(-1, 0, 0, 5), false, false},
		{half(1, 2, 3, 6), half(-1, -2, -3, far), false, false},
		// Half-spaces with all points in range differ farther away.
		{half(1, 0, 0, far), half(0, 1, 0, far), false, false},
		{half(1, 0, 0, -far), half(1, 1, 0, far), false, false},
		{half(1000, 999, 0, -far), half(999, 998, 0, far), false, false},
		{half(1000, 999, 998, -far), half(1000, 999, 997, far), false, false},
		{half(1, 0, 0, most), half(1, 0, 0, far), false, true},
		{half(1, 0, 0, far), half(1, 0, 0, most), false, false},
		{half(1000, 0, 0, far), half(1, 0, 0, 4000000), true, true},
		{half(1000, 0, 0, far), half(1, 0, 0, 3999999), false, false},
		{half(1000, 0, 0, far-1), half(1, 0, 0, 3999999), true, true},
	} {
		if got, e := plane.Equal(c.a, c.b); got != c.equal || e != api.OK {
			t.Errorf("Equal of %v and %v: %v, %d", c.a, c.b, got, e)
		}
		if got, e := plane.Within(c.a, c.b); got != c.within || e != api.OK {
			t.Errorf("Within of %v and %v: %v, %d", c.a, c.b, got, e)
		}
	}
}

// someHalves returns half-spaces whose differences show near the origin.
func someHalves() []api.Half {
	var out []api.Half
	for h := range halves(1, 1) {
		out = append(out, h)
	}
	for d := int64(-3); d <= 4; d++ {
		out = append(out, half(2, 0, 0, d), half(3, 0, 0, d), half(2, -2, 0, d), half(0, 2, 1, d), half(0, 4, 2, d), half(-2, -2, -2, d))
	}
	return out
}

// P7.3 and P7.5: by the points near the origin; Equal is Within in both ways.
func TestEqualAndWithinByPoints(t *testing.T) {
	list := someHalves()
	sets := make([][]bool, len(list))
	for i, h := range list {
		for p := range cube(-7, 7) {
			sets[i] = append(sets[i], value(h, p) <= 0)
		}
	}
	within := func(a, b []bool) bool {
		for i, has := range a {
			if has && !b[i] {
				return false
			}
		}
		return true
	}
	for i, a := range list {
		for k, b := range list {
			there, back := within(sets[i], sets[k]), within(sets[k], sets[i])
			if got, e := plane.Within(a, b); got != there || e != api.OK {
				t.Fatalf("Within of %v and %v: %v, %d", a, b, got, e)
			}
			if got, e := plane.Equal(a, b); got != (there && back) || e != api.OK {
				t.Fatalf("Equal of %v and %v: %v, %d", a, b, got, e)
			}
		}
	}
}

// P7.5: Within is transitive, also far away.
func TestWithinIsTransitive(t *testing.T) {
	list := append(someHalves(), half(1000, 0, 0, far), half(1, 0, 0, most), half(1, 0, 0, far), half(2, -2, 0, -far), half(-1, -1, -1, far))
	within := map[[2]api.Half]bool{}
	for _, a := range list {
		for _, b := range list {
			within[[2]api.Half{a, b}], _ = plane.Within(a, b)
		}
	}
	for _, a := range list {
		for _, b := range list {
			if !within[[2]api.Half{a, b}] {
				continue
			}
			for _, c := range list {
				if within[[2]api.Half{b, c}] && !within[[2]api.Half{a, c}] {
					t.Fatalf("%v lies within %v, this within %v, but the first not within the last", a, b, c)
				}
			}
		}
	}
}

// P7.5: a point lies in a half-space exactly if it lies in its normal form.
func TestNormalOfGreatNumbers(t *testing.T) {
	for _, n := range []int{2, 3, 7, 250, 333, 500, 1000} {
		for _, d := range []int64{-far, 1 - far, -most, -1, 0, 1, most, far - 1, far} {
			h := half(n, 0, -(1000/n)*n, d)
			normal, e := plane.Normal(h)
			if e != api.OK {
				t.Fatalf("Normal of %v: %d", h, e)
			}
			for _, x := range []int{-most, 1 - most, -1, 0, 1, most - 1, most} {
				p := vec(x, most, x/n)
				there, _ := plane.Value(h, p)
				here, _ := plane.Value(normal, p)
				if (there <= 0) != (here <= 0) {
					t.Errorf("%v has the value %d at %v, its normal form %v the value %d", h, there, p, normal, here)
				}
			}
		}
	}
}
