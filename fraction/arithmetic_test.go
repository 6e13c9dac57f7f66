package fraction_test

import (
	"math"
	"math/big"
	"math/rand"
	"testing"

	"gangsaw/api"
	"gangsaw/fraction"
)

// operation is a function of two fractions, with the same one of package big.
type operation struct {
	name  string
	call  func(a, b api.Frac) (api.Frac, api.Errno)
	exact func(z, a, b *big.Rat) *big.Rat
}

func operations() []operation {
	return []operation{
		{"Add", fraction.Add, (*big.Rat).Add},
		{"Sub", fraction.Sub, (*big.Rat).Sub},
		{"Mul", fraction.Mul, (*big.Rat).Mul},
		{"Div", fraction.Div, (*big.Rat).Quo},
	}
}

// P4.2
func TestArithmeticExamples(t *testing.T) {
	for _, c := range []struct {
		name string
		call func(a, b api.Frac) (api.Frac, api.Errno)
		a, b api.Frac
		want api.Frac
		code api.Errno
	}{
		{"Add", fraction.Add, frac(1, 3), frac(1, 6), frac(1, 2), api.OK},
		{"Div", fraction.Div, frac(1, 3), frac(2, 3), frac(1, 2), api.OK},
		{"Add", fraction.Add, frac(1, 2), frac(-1, 2), frac(0, 1), api.OK},
		{"Sub", fraction.Sub, frac(1, 2), frac(1, 3), frac(1, 6), api.OK},
		{"Sub", fraction.Sub, frac(0, 1), frac(1, 3), frac(-1, 3), api.OK},
		{"Mul", fraction.Mul, frac(-2, 3), frac(3, 4), frac(-1, 2), api.OK},
		{"Mul", fraction.Mul, frac(0, 1), frac(-most, 1), frac(0, 1), api.OK},
		{"Div", fraction.Div, frac(1, 2), frac(-3, 4), frac(-2, 3), api.OK},
		{"Div", fraction.Div, frac(0, 1), frac(-1, most), frac(0, 1), api.OK},
		{"Add", fraction.Add, frac(most-1, 1), frac(1, 1), frac(most, 1), api.OK},
		{"Add", fraction.Add, frac(most, 1), frac(1, 1), api.Frac{}, api.ErrRange},
		{"Add", fraction.Add, frac(-most, 1), frac(-1, 1), api.Frac{}, api.ErrRange},
		{"Sub", fraction.Sub, frac(-most, 1), frac(1, 1), api.Frac{}, api.ErrRange},
		{"Sub", fraction.Sub, frac(most, 1), frac(most, 1), frac(0, 1), api.OK},
		{"Add", fraction.Add, frac(1, most), frac(1, most-1), api.Frac{}, api.ErrRange},
		{"Add", fraction.Add, frac(1, most), frac(-1, most), frac(0, 1), api.OK},
		{"Add", fraction.Add, frac(most, 1), frac(most, 1), api.Frac{}, api.ErrRange},
		// The numbers on the way have more than 64 bits, the result is in range.
		{"Add", fraction.Add, frac(1, 999999999999999990), frac(-1, 499999999999999995), frac(-1, 999999999999999990), api.OK},
		{"Add", fraction.Add, frac(most-1, most), frac(1, most), frac(1, 1), api.OK},
		{"Mul", fraction.Mul, frac(most, most-1), frac(most-1, most), frac(1, 1), api.OK},
		{"Div", fraction.Div, frac(most, most-1), frac(most, most-1), frac(1, 1), api.OK},
		{"Mul", fraction.Mul, frac(999999999, 1), frac(1000000001, 1), frac(most, 1), api.OK},
		{"Mul", fraction.Mul, frac(1000000000, 1), frac(1000000000, 1), api.Frac{}, api.ErrRange},
		{"Mul", fraction.Mul, frac(-1, 1000000000), frac(1, 1000000000), api.Frac{}, api.ErrRange},
		{"Mul", fraction.Mul, frac(most, 1), frac(most, 1), api.Frac{}, api.ErrRange},
		{"Mul", fraction.Mul, frac(1<<32, 1), frac(1<<32, 1), api.Frac{}, api.ErrRange},
		{"Div", fraction.Div, frac(1, most), frac(most, 1), api.Frac{}, api.ErrRange},
	} {
		if got, e := c.call(c.a, c.b); got != c.want || e != c.code {
			t.Errorf("%s of %v and %v: %v, %d, want %v, %d", c.name, c.a, c.b, got, e, c.want, c.code)
		}
	}
}

func checkOperations(t *testing.T, a, b api.Frac) {
	t.Helper()
	for _, o := range operations() {
		if o.name == "Div" && b.Num == 0 {
			continue
		}
		want, code := expected(o.exact(new(big.Rat), rat(a), rat(b)))
		if got, e := o.call(a, b); got != want || e != code {
			t.Fatalf("%s of %v and %v: %v, %d, want %v, %d", o.name, a, b, got, e, want, code)
		}
	}
}

// P4.2: the results are exact, and out of range exactly if their lowest terms are.
func TestArithmeticByBigFractions(t *testing.T) {
	for _, a := range someFractions() {
		for _, b := range someFractions() {
			checkOperations(t, a, b)
		}
	}
	random := rand.New(rand.NewSource(4))
	next := func() api.Frac {
		for {
			num, den := random.Int63()>>random.Intn(62), random.Int63()>>random.Intn(62)
			if f, e := fraction.New(num-random.Int63()>>random.Intn(62), den); e == api.OK {
				return f
			}
		}
	}
	for range 100000 {
		checkOperations(t, next(), next())
	}
}

// P4.2: denominators with common divisors, whose sums can be in range although the products of their terms are not.
func TestSumsWithCommonDivisors(t *testing.T) {
	random := rand.New(rand.NewSource(5))
	for range 100000 {
		common := random.Int63n(999999999999) + 1
		a, _ := fraction.New(random.Int63n(2*most)-most, common*(random.Int63n(1000000)+1))
		b, _ := fraction.New(random.Int63n(2*most)-most, common*(random.Int63n(1000000)+1))
		if !fraction.Valid(a) || !fraction.Valid(b) {
			continue
		}
		checkOperations(t, a, b)
	}
}

// P4.2
func TestPower(t *testing.T) {
	for _, c := range []struct {
		a    api.Frac
		n    int
		want api.Frac
		code api.Errno
	}{
		{frac(2, 3), 3, frac(8, 27), api.OK},
		{frac(-2, 3), 3, frac(-8, 27), api.OK},
		{frac(-2, 3), 2, frac(4, 9), api.OK},
		{frac(2, 3), 1, frac(2, 3), api.OK},
		{frac(2, 3), 0, frac(1, 1), api.OK},
		{frac(0, 1), 0, frac(1, 1), api.OK},
		{frac(0, 1), 64, frac(0, 1), api.OK},
		{frac(1, 1), 64, frac(1, 1), api.OK},
		{frac(-1, 1), 63, frac(-1, 1), api.OK},
		{frac(-1, 1), 64, frac(1, 1), api.OK},
		{frac(most, 1), 0, frac(1, 1), api.OK},
		{frac(most, 1), 1, frac(most, 1), api.OK},
		{frac(most, 1), 2, api.Frac{}, api.ErrRange},
		{frac(1, 2), 59, frac(1, 1<<59), api.OK},
		{frac(1, 2), 60, api.Frac{}, api.ErrRange},
		{frac(2, 1), 59, frac(1<<59, 1), api.OK},
		{frac(2, 1), 60, api.Frac{}, api.ErrRange},
		{frac(2, 1), 64, api.Frac{}, api.ErrRange},
		{frac(-1, 10), 17, frac(-1, 100000000000000000), api.OK},
		{frac(-1, 10), 18, api.Frac{}, api.ErrRange},
		{frac(10, 1), 18, api.Frac{}, api.ErrRange},
		{frac(2, 3), -1, api.Frac{}, api.ErrInvalid},
		{frac(2, 3), 65, api.Frac{}, api.ErrInvalid},
		{frac(0, 1), 65, api.Frac{}, api.ErrInvalid},
		{frac(1, 1), -1, api.Frac{}, api.ErrInvalid},
		{frac(2, 3), math.MinInt, api.Frac{}, api.ErrInvalid},
		{frac(most, 1), math.MaxInt, api.Frac{}, api.ErrInvalid},
	} {
		if got, e := fraction.Power(c.a, c.n); got != c.want || e != c.code {
			t.Errorf("Power of %v and %d: %v, %d, want %v, %d", c.a, c.n, got, e, c.want, c.code)
		}
	}
	for _, a := range someFractions() {
		exact := big.NewRat(1, 1)
		for n := range 65 {
			want, code := expected(exact)
			if got, e := fraction.Power(a, n); got != want || e != code {
				t.Fatalf("Power of %v and %d: %v, %d, want %v, %d", a, n, got, e, want, code)
			}
			exact.Mul(exact, rat(a))
		}
	}
}

// P1: what is no fraction is refused at every place, before a result out of range, with zero results.
func TestInvalidArguments(t *testing.T) {
	for _, bad := range invalid() {
		for _, other := range []api.Frac{{Num: 1, Den: 2}, {Num: 0, Den: 1}, {Num: most, Den: 1}, {Num: -1, Den: most}, bad} {
			for _, o := range append(operations(), operation{name: "Simplest", call: fraction.Simplest}) {
				for _, c := range [][2]api.Frac{{bad, other}, {other, bad}} {
					if got, e := o.call(c[0], c[1]); got != (api.Frac{}) || e != api.ErrInvalid {
						t.Errorf("%s of %v and %v: %v, %d", o.name, c[0], c[1], got, e)
					}
				}
			}
		}
		for _, n := range []int{-1, 0, 1, 2, 64, 65} {
			if got, e := fraction.Power(bad, n); got != (api.Frac{}) || e != api.ErrInvalid {
				t.Errorf("Power of %v and %d: %v, %d", bad, n, got, e)
			}
		}
		if got, e := fraction.Text(bad); got != "" || e != api.ErrInvalid {
			t.Errorf("Text of %v: %q, %d", bad, got, e)
		}
	}
	for _, a := range someFractions() {
		if got, e := fraction.Div(a, frac(0, 1)); got != (api.Frac{}) || e != api.ErrInvalid {
			t.Errorf("Div of %v and 0: %v, %d", a, got, e)
		}
	}
}

// P4.6: the laws of addition and multiplication, where nothing is out of range.
func TestPropertiesOfSmallFractions(t *testing.T) {
	add := func(a, b api.Frac) api.Frac { return must(t)(fraction.Add(a, b)) }
	sub := func(a, b api.Frac) api.Frac { return must(t)(fraction.Sub(a, b)) }
	mul := func(a, b api.Frac) api.Frac { return must(t)(fraction.Mul(a, b)) }
	div := func(a, b api.Frac) api.Frac { return must(t)(fraction.Div(a, b)) }
	list := smallFractions(4)
	for _, a := range list {
		for _, b := range list {
			if add(a, b) != add(b, a) || mul(a, b) != mul(b, a) {
				t.Fatalf("%v and %v in another order", a, b)
			}
			if sub(add(a, b), b) != a || add(sub(a, b), b) != a || b.Num != 0 && (div(mul(a, b), b) != a || mul(div(a, b), b) != a) {
				t.Fatalf("%v and %v: not undone", a, b)
			}
			if c := fraction.Cmp(a, b); c != -fraction.Cmp(b, a) || (c == 0) != (a == b) {
				t.Fatalf("Cmp of %v and %v: %d", a, b, c)
			}
			for _, c := range list {
				if add(add(a, b), c) != add(a, add(b, c)) || mul(mul(a, b), c) != mul(a, mul(b, c)) || mul(a, add(b, c)) != add(mul(a, b), mul(a, c)) {
					t.Fatalf("%v, %v, %v in other brackets", a, b, c)
				}
				if fraction.Cmp(add(a, c), add(b, c)) != fraction.Cmp(a, b) {
					t.Fatalf("Cmp of %v and %v changes if %v is added", a, b, c)
				}
				if fraction.Cmp(a, b) <= 0 && fraction.Cmp(b, c) <= 0 && fraction.Cmp(a, c) > 0 {
					t.Fatalf("Cmp of %v, %v, %v is no order", a, b, c)
				}
			}
		}
	}
}

// must returns a function that reports errors of calls that have to succeed.
func must(t *testing.T) func(f api.Frac, e api.Errno) api.Frac {
	return func(f api.Frac, e api.Errno) api.Frac {
		t.Helper()
		if e != api.OK {
			t.Fatalf("error %d", e)
		}
		return f
	}
}
