package fraction_test

import (
	"math/big"
	"math/rand"
	"regexp"
	"strings"
	"testing"

	"gangsaw/api"
	"gangsaw/fraction"
)

// P4.4
func TestSimplest(t *testing.T) {
	for _, c := range []struct {
		a, b, want api.Frac
	}{
		{frac(3, 10), frac(2, 5), frac(1, 3)},
		{frac(9, 10), frac(11, 10), frac(1, 1)},
		{frac(-7, 2), frac(-3, 2), frac(-2, 1)},
		{frac(-1, 1), frac(5, 1), frac(0, 1)},
		{frac(0, 1), frac(5, 1), frac(0, 1)},
		{frac(-5, 1), frac(0, 1), frac(0, 1)},
		{frac(0, 1), frac(0, 1), frac(0, 1)},
		{frac(3, 1), frac(5, 1), frac(3, 1)},
		{frac(-5, 1), frac(-3, 1), frac(-3, 1)},
		{frac(5, 2), frac(3, 1), frac(3, 1)},
		{frac(2, 1), frac(5, 2), frac(2, 1)},
		{frac(5, 7), frac(5, 7), frac(5, 7)},
		{frac(-5, 7), frac(-5, 7), frac(-5, 7)},
		{frac(-2, 5), frac(-3, 10), frac(-1, 3)},
		{frac(1, most), frac(1, most-1), frac(1, most-1)},
		{frac(1, most), frac(most, 1), frac(1, 1)},
		{frac(-most, 1), frac(-1, most), frac(-1, 1)},
		{frac(most-1, most), frac(most-1, most), frac(most-1, most)},
		{frac(most, most-1), frac(most, most-1), frac(most, most-1)},
		{frac(-most, 1), frac(most, 1), frac(0, 1)},
		{frac(most-1, 1), frac(most, 1), frac(most-1, 1)},
	} {
		if got, e := fraction.Simplest(c.a, c.b); got != c.want || e != api.OK {
			t.Errorf("Simplest of %v and %v: %v, %d, want %v", c.a, c.b, got, e, c.want)
		}
	}
	for _, c := range [][2]api.Frac{
		{frac(2, 5), frac(3, 10)}, {frac(-3, 2), frac(-7, 2)}, {frac(1, 1), frac(-1, 1)}, {frac(1, 2), frac(0, 1)},
		{frac(most, most-1), frac(1, 1)}, {frac(1, most-1), frac(1, most)},
	} {
		if got, e := fraction.Simplest(c[0], c[1]); got != (api.Frac{}) || e != api.ErrInvalid {
			t.Errorf("Simplest of %v and %v: %v, %d", c[0], c[1], got, e)
		}
	}
}

// leastBetween tries the denominators one after the other, and for each the numerators from 0 on.
func leastBetween(a, b api.Frac, most int64) api.Frac {
	for den := int64(1); ; den++ {
		for size := int64(0); size <= most*den; size++ {
			for _, num := range []int64{size, -size} {
				if num*a.Den >= a.Num*den && num*b.Den <= b.Num*den {
					return frac(num, den)
				}
			}
		}
	}
}

// P4.4
func TestSimplestOfSmallFractions(t *testing.T) {
	const n = 7
	for _, a := range smallFractions(n) {
		for _, b := range smallFractions(n) {
			got, e := fraction.Simplest(a, b)
			if fraction.Cmp(a, b) > 0 {
				if e != api.ErrInvalid || got != (api.Frac{}) {
					t.Fatalf("Simplest of %v and %v: %v, %d", a, b, got, e)
				}
				continue
			}
			if want := leastBetween(a, b, n); got != want || e != api.OK {
				t.Fatalf("Simplest of %v and %v: %v, %d, want %v", a, b, got, e, want)
			}
		}
	}
}

// checkSimplest examines the simplest fraction from a to b, and that from -b to -a.
func checkSimplest(t *testing.T, a, b, want api.Frac) {
	t.Helper()
	if got, e := fraction.Simplest(a, b); got != want || e != api.OK {
		t.Fatalf("Simplest of %v and %v: %v, %d, want %v", a, b, got, e, want)
	}
	minusA, minusB, minus := frac(-a.Num, a.Den), frac(-b.Num, b.Den), frac(-want.Num, want.Den)
	if got, e := fraction.Simplest(minusB, minusA); got != minus || e != api.OK {
		t.Fatalf("Simplest of %v and %v: %v, %d, want %v", minusB, minusA, got, e, minus)
	}
}

func mediant(a, b api.Frac) api.Frac { return frac(a.Num+b.Num, a.Den+b.Den) }

// P4.4: two fractions whose cross products differ by 1 have nothing simpler between them than their mediant.
func TestSimplestOfLargeFractions(t *testing.T) {
	random := rand.New(rand.NewSource(6))
	for round := range 3000 {
		whole := random.Int63n(3)
		low, high := frac(whole, 1), frac(whole+1, 1)
		for {
			middle := mediant(low, high)
			after, before := mediant(low, middle), mediant(middle, high)
			if !fraction.Valid(after) || !fraction.Valid(before) {
				break
			}
			checkSimplest(t, after, before, middle)
			checkSimplest(t, middle, before, middle)
			checkSimplest(t, after, middle, middle)
			if low.Den != high.Den {
				want := low
				if high.Den < low.Den {
					want = high
				}
				checkSimplest(t, low, high, want)
			}
			// The first round alternates, which makes the continued fraction as long as it can be.
			if round == 0 && low.Den < high.Den || round > 0 && random.Intn(round%7+2) == 0 {
				low = middle
			} else {
				high = middle
			}
		}
	}
}

// P4.6
func TestSimplestOfWiderRanges(t *testing.T) {
	list := smallFractions(5)
	for _, a := range list {
		if got, e := fraction.Simplest(a, a); got != a || e != api.OK {
			t.Fatalf("Simplest of %v and itself: %v, %d", a, got, e)
		}
		for _, b := range list {
			narrow, e := fraction.Simplest(a, b)
			if e != api.OK {
				continue
			}
			for _, c := range list {
				if wide, e := fraction.Simplest(c, b); e == api.OK && fraction.Cmp(c, a) <= 0 && wide.Den > narrow.Den {
					t.Fatalf("Simplest of %v and %v: %v, of %v and %v: %v", a, b, narrow, c, b, wide)
				}
			}
		}
	}
}

// P4.5
func TestText(t *testing.T) {
	for _, c := range []struct {
		f    api.Frac
		text string
	}{
		{frac(0, 1), "0"},
		{frac(1, 1), "1"},
		{frac(-1, 1), "-1"},
		{frac(-3, 2), "-3/2"},
		{frac(10, 3), "10/3"},
		{frac(1, 100), "1/100"},
		{frac(most, 1), "999999999999999999"},
		{frac(-1, most), "-1/999999999999999999"},
		{frac(1-most, most), "-999999999999999998/999999999999999999"},
	} {
		if got, e := fraction.Text(c.f); got != c.text || e != api.OK {
			t.Errorf("Text of %v: %q, %d, want %q", c.f, got, e, c.text)
		}
		if got, e := fraction.Parse(c.text); got != c.f || e != api.OK {
			t.Errorf("Parse of %q: %v, %d, want %v", c.text, got, e, c.f)
		}
	}
	for _, f := range someFractions() {
		text, e := fraction.Text(f)
		if back, code := fraction.Parse(text); back != f || e != api.OK || code != api.OK {
			t.Errorf("Text of %v: %q, %d, and back: %v, %d", f, text, e, back, code)
		}
	}
}

// P4.5
func TestParseOfOtherTexts(t *testing.T) {
	for _, s := range []string{
		"", "2/4", "02", "1/1", "-3/1", "0/1", "0/2", "-0", "+1", "1/02", "1/-2", "1/+2", "-1/-2", "1/0", "0/0",
		"/", "/2", "1/", "-", "-/2", "1/2/3", "1//2", " 1", "1 ", "1 /2", "1/ 2", "1\n", "1\x00", "--1", "1-", "0x1", "1e3", "1.5", "1_000",
		"one", "\xff", "\u0661", "1000000000000000000", "-1000000000000000000", "1/1000000000000000000",
		"9223372036854775807", "9223372036854775808", "-9223372036854775808", "18446744073709551617", "1/18446744073709551617",
		"99999999999999999999999999", "1/99999999999999999999999999", "00", "000000000000000000001", strings.Repeat("1", 100000), "1/" + strings.Repeat("0", 100000) + "2",
	} {
		if got, e := fraction.Parse(s); got != (api.Frac{}) || e != api.ErrSyntax {
			t.Errorf("Parse of %.40q: %v, %d", s, got, e)
		}
	}
}

// isText reports whether a short string has the shape of a text, and terms without a common divisor.
func isText(s string) bool {
	if !regexp.MustCompile(`^(0|-?[1-9][0-9]*)(/[1-9][0-9]*)?$`).MatchString(s) {
		return false
	}
	_, den, isDivided := strings.Cut(s, "/")
	r, _ := new(big.Rat).SetString(s)
	return !isDivided || den != "1" && den == r.Denom().String()
}

// P4.5: of all short strings, exactly the texts are accepted.
func TestParseOfShortStrings(t *testing.T) {
	accepted := 0
	var visit func(s string)
	visit = func(s string) {
		want, code := api.Frac{}, api.ErrSyntax
		if isText(s) {
			r, _ := new(big.Rat).SetString(s)
			want, code = expected(r)
			accepted++
		}
		if got, e := fraction.Parse(s); got != want || e != code {
			t.Fatalf("Parse of %q: %v, %d, want %v, %d", s, got, e, want, code)
		}
		if len(s) < 5 {
			for _, b := range "-+/ 0126" {
				visit(s + string(b))
			}
		}
	}
	visit("")
	if accepted < 100 {
		t.Errorf("only %d texts", accepted)
	}
}
