package fraction_test

import (
	"math"
	"math/big"
	"testing"

	"gangsaw/api"
	"gangsaw/fraction"
)

const most = fraction.Bound - 1

func frac(num, den int64) api.Frac { return api.Frac{Num: num, Den: den} }

func rat(f api.Frac) *big.Rat { return big.NewRat(f.Num, f.Den) }

// term returns a number of a fraction, if it is in range.
func term(n *big.Int) (int64, bool) {
	return n.Int64(), n.CmpAbs(big.NewInt(most)) <= 0
}

// expected returns what a function with the exact result r must return.
func expected(r *big.Rat) (api.Frac, api.Errno) {
	num, fits := term(r.Num())
	den, fitsToo := term(r.Denom())
	if !fits || !fitsToo {
		return api.Frac{}, api.ErrRange
	}
	return frac(num, den), api.OK
}

// smallFractions returns all fractions with terms up to n.
func smallFractions(n int64) []api.Frac {
	var out []api.Frac
	for num := -n; num <= n; num++ {
		for den := int64(1); den <= n; den++ {
			if f := rat(frac(num, den)); f.Denom().Int64() == den {
				out = append(out, frac(num, den))
			}
		}
	}
	return out
}

// someFractions returns small fractions, and ones whose terms or results are near the bounds.
func someFractions() []api.Frac {
	out := smallFractions(4)
	for _, f := range []api.Frac{
		{Num: most, Den: 1}, {Num: most - 1, Den: 1}, {Num: 1, Den: most}, {Num: 1, Den: most - 1},
		{Num: most, Den: most - 1}, {Num: most - 1, Den: most}, {Num: most, Den: 2}, {Num: 2, Den: most},
		{Num: most / 2, Den: 1}, {Num: most/2 + 1, Den: 1}, {Num: most / 3, Den: 1}, {Num: 7, Den: most / 3},
		{Num: 500000000000000000, Den: 1}, {Num: 500000000000000001, Den: 1}, {Num: 1, Den: 500000000000000000},
		{Num: 1000000000, Den: 1}, {Num: 999999999, Den: 1000000000}, {Num: 1000000001, Den: 1000000000},
		{Num: 1, Den: 1000000000}, {Num: 1, Den: 999999999}, {Num: 4294967296, Den: 1}, {Num: 1, Den: 4294967297},
		{Num: 123456789012345678, Den: 987654321098765431}, {Num: 987654321098765431, Den: 123456789012345678},
		{Num: 3, Den: 720720}, {Num: 720720, Den: 7}, {Num: 1, Den: 1 << 59}, {Num: 1 << 59, Den: 1}, {Num: 3, Den: 1 << 58},
	} {
		lowest, _ := expected(rat(f))
		out = append(out, lowest, frac(-lowest.Num, lowest.Den))
	}
	return out
}

// invalid returns values that are not fractions.
func invalid() []api.Frac {
	return []api.Frac{
		{}, {Num: 1, Den: 0}, {Num: 1, Den: -1}, {Num: -1, Den: -2}, {Num: 0, Den: -1},
		{Num: 0, Den: 2}, {Num: 2, Den: 4}, {Num: -6, Den: 9}, {Num: 5, Den: 5}, {Num: most, Den: most},
		{Num: fraction.Bound, Den: 1}, {Num: -fraction.Bound, Den: 1}, {Num: 1, Den: fraction.Bound},
		{Num: math.MinInt64, Den: 1}, {Num: math.MaxInt64, Den: 1}, {Num: 1, Den: math.MinInt64}, {Num: 1, Den: math.MaxInt64},
		{Num: math.MinInt64, Den: math.MinInt64},
	}
}

// P4.1
func TestValid(t *testing.T) {
	for _, f := range someFractions() {
		if !fraction.Valid(f) {
			t.Errorf("Valid of %v", f)
		}
	}
	for _, f := range invalid() {
		if fraction.Valid(f) {
			t.Errorf("Valid of %v, which is no fraction", f)
		}
	}
	for num := int64(-9); num <= 9; num++ {
		for den := int64(-9); den <= 9; den++ {
			want := den > 0 && big.NewRat(num, den).Denom().Int64() == den
			if got := fraction.Valid(frac(num, den)); got != want {
				t.Errorf("Valid of %d / %d: %v", num, den, got)
			}
		}
	}
}

// P4.1
func TestNew(t *testing.T) {
	for _, c := range []struct {
		num, den int64
		want     api.Frac
		code     api.Errno
	}{
		{6, -4, frac(-3, 2), api.OK},
		{5, 2, frac(5, 2), api.OK},
		{-6, -4, frac(3, 2), api.OK},
		{0, -7, frac(0, 1), api.OK},
		{0, math.MinInt64, frac(0, 1), api.OK},
		{most, most, frac(1, 1), api.OK},
		{most, 1, frac(most, 1), api.OK},
		{-1, most, frac(-1, most), api.OK},
		{1, -most, frac(-1, most), api.OK},
		{fraction.Bound, 1, api.Frac{}, api.ErrRange},
		{1, fraction.Bound, api.Frac{}, api.ErrRange},
		{-1, -fraction.Bound, api.Frac{}, api.ErrRange},
		{fraction.Bound, 2, frac(fraction.Bound/2, 1), api.OK},
		{7, 7 * fraction.Bound, api.Frac{}, api.ErrRange},
		{math.MinInt64, math.MinInt64, frac(1, 1), api.OK},
		{math.MinInt64, 16, frac(-576460752303423488, 1), api.OK},
		{math.MinInt64, 8, api.Frac{}, api.ErrRange},
		{math.MinInt64, -1, api.Frac{}, api.ErrRange},
		{32, math.MinInt64, frac(-1, 288230376151711744), api.OK},
		{1, math.MinInt64, api.Frac{}, api.ErrRange},
		{math.MaxInt64, math.MinInt64, api.Frac{}, api.ErrRange},
		{math.MaxInt64, -math.MaxInt64, frac(-1, 1), api.OK},
		{1, 0, api.Frac{}, api.ErrInvalid},
		{0, 0, api.Frac{}, api.ErrInvalid},
		{math.MinInt64, 0, api.Frac{}, api.ErrInvalid},
	} {
		if got, e := fraction.New(c.num, c.den); got != c.want || e != c.code {
			t.Errorf("New of %d and %d: %v, %d, want %v, %d", c.num, c.den, got, e, c.want, c.code)
		}
	}
	for num := int64(-20); num <= 20; num++ {
		for den := int64(-20); den <= 20; den++ {
			if den == 0 {
				continue
			}
			want, _ := expected(big.NewRat(num, den))
			if got, e := fraction.New(num, den); got != want || e != api.OK {
				t.Errorf("New of %d and %d: %v, %d, want %v", num, den, got, e, want)
			}
		}
	}
}

// P4.3
func TestCmpFloorAndRound(t *testing.T) {
	for _, c := range []struct {
		a            api.Frac
		floor, round int64
	}{
		{frac(-3, 2), -2, -2},
		{frac(5, 2), 2, 3},
		{frac(0, 1), 0, 0},
		{frac(7, 1), 7, 7},
		{frac(-7, 1), -7, -7},
		{frac(1, 2), 0, 1},
		{frac(-1, 2), -1, -1},
		{frac(-5, 2), -3, -3},
		{frac(1, 3), 0, 0},
		{frac(2, 3), 0, 1},
		{frac(-1, 3), -1, 0},
		{frac(-2, 3), -1, -1},
		{frac(most, 2), (most - 1) / 2, (most + 1) / 2},
		{frac(-most, 2), -(most + 1) / 2, -(most + 1) / 2},
		{frac(most, 1), most, most},
		{frac(-most, 1), -most, -most},
		{frac(most-1, most), 0, 1},
		{frac(1-most, most), -1, -1},
		{frac((most-1)/2, most), 0, 0},
		{frac((most+1)/2, most), 0, 1},
		{frac(-(most-1)/2, most), -1, 0},
		{frac(-(most+1)/2, most), -1, -1},
	} {
		if got := fraction.Floor(c.a); got != c.floor {
			t.Errorf("Floor of %v: %d, want %d", c.a, got, c.floor)
		}
		if got := fraction.Round(c.a); got != c.round {
			t.Errorf("Round of %v: %d, want %d", c.a, got, c.round)
		}
	}
	for _, a := range someFractions() {
		for _, b := range someFractions() {
			if got, want := fraction.Cmp(a, b), rat(a).Cmp(rat(b)); got != want {
				t.Fatalf("Cmp of %v and %v: %d, want %d", a, b, got, want)
			}
		}
	}
}

// P4.3: by the distances to the integers around a fraction.
func TestFloorAndRoundByDistance(t *testing.T) {
	for _, a := range someFractions() {
		floor, round := fraction.Floor(a), fraction.Round(a)
		rest := new(big.Rat).Sub(rat(a), big.NewRat(floor, 1))
		if rest.Sign() < 0 || rest.Cmp(big.NewRat(1, 1)) >= 0 {
			t.Errorf("Floor of %v: %d", a, floor)
		}
		half := rest.Cmp(big.NewRat(1, 2))
		want := floor
		if half > 0 || half == 0 && a.Num > 0 {
			want++
		}
		if round != want {
			t.Errorf("Round of %v: %d, want %d", a, round, want)
		}
	}
}

// P1: Cmp, Floor and Round return 0 for what is no fraction.
func TestZeroForInvalid(t *testing.T) {
	for _, bad := range invalid() {
		for _, other := range append(invalid(), frac(-3, 2), frac(7, 1), frac(0, 1)) {
			if c, d := fraction.Cmp(bad, other), fraction.Cmp(other, bad); c != 0 || d != 0 {
				t.Errorf("Cmp of %v and %v: %d and %d", bad, other, c, d)
			}
		}
		if f, r := fraction.Floor(bad), fraction.Round(bad); f != 0 || r != 0 {
			t.Errorf("Floor and Round of %v: %d and %d", bad, f, r)
		}
	}
}
