package codec_test

import (
	"math"
	"math/rand"
	"strings"
	"testing"

	"gangsaw/api"
	"gangsaw/codec"
)

// increasing returns values in their order, impossible ones among them.
func increasing() []codec.Value {
	return []codec.Value{
		{Kind: math.MinInt},
		{Kind: -1, N: 5},
		{},
		{N: 1},
		{N: 1, S: "a"},
		{N: 1, S: "a", Items: []codec.Value{{}}},
		num(math.MinInt64),
		num(-5),
		{Kind: codec.Number, N: -5, Items: []codec.Value{num(1)}},
		{Kind: codec.Number, N: -5, S: "a"},
		num(0),
		num(3),
		num(math.MaxInt64),
		{Kind: codec.Text, N: -1, S: "z"},
		str(""),
		str("\x00"),
		str("B"),
		str("a"),
		{Kind: codec.Text, S: "a", Items: []codec.Value{num(1)}},
		str("a\x00"),
		str("ab"),
		str("b"),
		str("\u00e4"),
		str("\xff"),
		{Kind: codec.Text, N: 1},
		seq(),
		seq(num(1)),
		seq(num(1), num(0)),
		seq(num(1), num(0), num(0)),
		seq(num(1), str("")),
		seq(num(1), seq()),
		seq(num(2)),
		seq(str("a")),
		seq(seq()),
		seq(seq(num(1)), num(5)),
		seq(seq(num(1), num(1))),
		seq(seq(num(2))),
		seq(codec.Value{Kind: 4}),
		{Kind: codec.List, S: "a"},
		{Kind: codec.List, N: 1},
		{Kind: 4},
		{Kind: math.MaxInt},
	}
}

// P2.3 and P2.5: the order is total, and its equal values are those that Equal accepts.
func TestCompareAndEqual(t *testing.T) {
	list, again := increasing(), increasing()
	for i, a := range list {
		for k, b := range again {
			want := 0
			if i < k {
				want = -1
			} else if i > k {
				want = 1
			}
			if c := codec.Compare(a, b); c != want {
				t.Errorf("Compare of %v and %v: %d, want %d", a, b, c, want)
			}
			if got := codec.Equal(a, b); got != (i == k) {
				t.Errorf("Equal of %v and %v: %v", a, b, got)
			}
		}
	}
}

// P2.3 and the Rules: nil and empty lists are the same.
func TestNilAndEmptyListsAreEqual(t *testing.T) {
	a, b := codec.Value{Kind: codec.List}, codec.Value{Kind: codec.List, Items: []codec.Value{}}
	if !codec.Equal(a, b) || codec.Compare(a, b) != 0 || codec.Compare(b, a) != 0 || !codec.Equal(seq(b), seq(a)) {
		t.Error("nil and empty lists differ")
	}
}

// randomValue returns a possible value with a depth of at most depth.
func randomValue(r *rand.Rand, depth int) codec.Value {
	switch kind := r.Intn(3); {
	case kind == 0:
		return num(r.Int63()>>r.Intn(64) - r.Int63()>>r.Intn(64))
	case kind == 1 || depth == 0:
		return str(strings.Repeat("ab", r.Intn(3)) + string(rune('a'+r.Intn(26))))
	}
	items := make([]codec.Value, r.Intn(4))
	for i := range items {
		items[i] = randomValue(r, depth-1)
	}
	return codec.Value{Kind: codec.List, Items: items}
}

// P2.5: Decode of an encoding is the value, and no encoding is the beginning of another one.
func TestEncodingsOfManyValues(t *testing.T) {
	r := rand.New(rand.NewSource(2))
	known := map[string]codec.Value{}
	for range 3000 {
		v := randomValue(r, 5)
		s, e := codec.Encode(v)
		if e != api.OK {
			t.Fatalf("Encode of %v: %d", v, e)
		}
		if w, e := codec.Decode(s); e != api.OK || !same(v, w) || !codec.Equal(v, w) {
			t.Fatalf("Decode of %q: %v, %d, want %v", s, w, e, v)
		}
		if w, ok := known[s]; ok && !same(v, w) {
			t.Fatalf("%v and %v have the encoding %q", v, w, s)
		}
		known[s] = v
		for end := range len(s) {
			if _, _, e := codec.First(s[:end]); e != api.ErrSyntax {
				t.Fatalf("First of %q, the beginning of an encoding: %d", s[:end], e)
			}
		}
	}
}

// P2.5: every string is the encoding of at most one value: what Decode accepts, Encode gives back.
func TestDecodedStringsAreCanonical(t *testing.T) {
	letters := []byte("nltx\x00\x01\x02\x7f\x80\x81\xff")
	accepted := 0
	var extend func(s string, left int)
	extend = func(s string, left int) {
		v, e := codec.Decode(s)
		if e == api.OK {
			accepted++
			if again, e := codec.Encode(v); again != s || e != api.OK {
				t.Errorf("%q is decoded, but its value is encoded as %q, %d", s, again, e)
			}
		}
		if left == 0 {
			return
		}
		for _, b := range letters {
			extend(s+string([]byte{b}), left-1)
		}
	}
	extend("", 5)
	if accepted < 100 {
		t.Errorf("only %d strings were accepted", accepted)
	}
}

// P2.5: equal parts in many places of a list do not change the order.
func TestCompareRepeatedParts(t *testing.T) {
	part := seq(num(1), seq(str("x")))
	other := seq(num(1), seq(str("y")))
	a := codec.Value{Kind: codec.List, Items: []codec.Value{part, part, other}}
	b := codec.Value{Kind: codec.List, Items: []codec.Value{part, part, part}}
	if codec.Compare(a, b) != 1 || codec.Compare(b, a) != -1 || codec.Equal(a, b) {
		t.Error("Compare of lists with repeated parts")
	}
	long := []codec.Value{part, part, part}
	c := codec.Value{Kind: codec.List, Items: []codec.Value{{Kind: codec.List, Items: long}, {Kind: codec.List, Items: long[:2]}}}
	d := codec.Value{Kind: codec.List, Items: []codec.Value{{Kind: codec.List, Items: long}, {Kind: codec.List, Items: long}}}
	if codec.Compare(c, d) != -1 || codec.Compare(d, c) != 1 {
		t.Error("Compare of lists of different lengths that begin at the same place")
	}
}

// P2.5: two strings of the same length that differ in one byte have different digests.
func TestDigestsOfStringsThatDifferInOneByte(t *testing.T) {
	base := []byte("the saw cuts stone")
	for i := range base {
		seen := map[string]bool{}
		for b := range 256 {
			s := append([]byte{}, base...)
			s[i] = byte(b)
			digest := codec.Digest(string(s))
			if seen[digest] || len(digest) != 16 || strings.Trim(digest, "0123456789abcdef") != "" {
				t.Errorf("Digest of %q: %q", s, digest)
			}
			seen[digest] = true
		}
	}
}
