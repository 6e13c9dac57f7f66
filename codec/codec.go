// Package codec is layer 2: a canonical encoding of trees of numbers and texts, and a digest. See shared/doc/02-codec.md.
package codec

import (
	"cmp"
	"math/bits"
	"slices"
	"strconv"
	"strings"

	"gangsaw/api"
)

// The kinds of values.
const (
	Number = 1
	Text   = 2
	List   = 3
)

// Limits of values.
const (
	MaxDepth = 16
	MaxBytes = 1000000 // bytes of an encoding
)

// maxLevels is well above 2^16, the levels of nesting for which the document promises anything: a deeper value is taken for one that contains itself.
const maxLevels = 1 << 17

// The numbers of the digest.
const (
	digestStart  = 11400714819323198485
	digestFactor = 18397679294719823053
	digestLength = 16
)

// Value is a number (N), a text (S), or a list of values (Items).
type Value struct {
	Kind  int
	N     int64
	S     string
	Items []Value
}

// Num returns the value of a number.
func Num(n int64) Value { return Value{Kind: Number, N: n} }

// Str returns the value of a text.
func Str(s string) Value { return Value{Kind: Text, S: s} }

// Seq returns the value of a list.
func Seq(items ...Value) Value {
	list, ok := copied(items, maxLevels)
	if !ok {
		list = slices.Clone(items)
	}
	return Value{Kind: List, Items: list}
}

// Check returns OK for a value that can be encoded, or the first error.
func Check(v Value) api.Errno {
	if !possible(v) {
		return api.ErrInvalid
	}
	if !fits(v) {
		return api.ErrTooMany
	}
	return api.OK
}

// Encode returns the encoding of a value.
func Encode(v Value) (string, api.Errno) {
	if e := Check(v); e != api.OK {
		return "", e
	}
	return string(appendValue(nil, v)), api.OK
}

// Decode returns the value of an encoding.
func Decode(s string) (Value, api.Errno) {
	v, n, e := First(s)
	if e != api.OK {
		return Value{}, e
	}
	if n < len(s) {
		return Value{}, api.ErrSyntax
	}
	return v, api.OK
}

// First returns the value with whose encoding a string begins, and the length of this encoding.
func First(s string) (Value, int, api.Errno) {
	if len(s) > MaxBytes {
		return Value{}, 0, api.ErrTooMany
	}
	r := reader{text: s}
	v, ok := r.value(MaxDepth)
	if !ok {
		return Value{}, 0, api.ErrSyntax
	}
	return v, r.at, api.OK
}

// Equal reports whether two values are the same.
func Equal(a, b Value) bool { return Compare(a, b) == 0 }

// Compare compares two values: numbers before texts before lists, then by what they contain.
func Compare(a, b Value) int {
	// Lists that have been compared, or are being compared, are passed over: so this ends for lists that contain themselves.
	seen := map[[2]place]bool{}
	var compare func(a, b Value) int
	compare = func(a, b Value) int {
		c := cmp.Or(cmp.Compare(a.Kind, b.Kind), cmp.Compare(a.N, b.N), strings.Compare(a.S, b.S))
		if c != 0 {
			return c
		}
		both := [2]place{placeOf(a.Items), placeOf(b.Items)}
		if seen[both] {
			return 0
		}
		seen[both] = true
		return slices.CompareFunc(a.Items, b.Items, compare)
	}
	return compare(a, b)
}

// Digest returns the digest of a string: 16 hexadecimal digits.
func Digest(s string) string {
	h := uint64(digestStart)
	for i := range len(s) {
		h = (bits.RotateLeft64(h, 7) ^ uint64(s[i])) * digestFactor
	}
	h ^= h >> 32
	digits := strconv.FormatUint(h, 16)
	return strings.Repeat("0", digestLength-len(digits)) + digits
}

// place tells where a list lies in memory, to recognize it when it is met again.
type place struct {
	first *Value
	n     int
}

func placeOf(items []Value) place {
	if len(items) == 0 {
		return place{}
	}
	return place{&items[0], len(items)}
}

// copied returns a copy of a list that shares no memory with it at any depth. It gives up beyond so many levels, since a list may contain itself.
func copied(items []Value, levels int) ([]Value, bool) {
	if len(items) == 0 {
		return nil, true
	}
	if levels == 0 {
		return nil, false
	}
	out := slices.Clone(items)
	for i := range out {
		var ok bool
		if out[i].Items, ok = copied(out[i].Items, levels-1); !ok {
			return nil, false
		}
	}
	return out, true
}

// possible reports whether a value and all values within it are possible.
func possible(v Value) bool {
	// A list that has been met is not examined again: so this ends for lists that contain themselves.
	seen := map[place]bool{}
	open := [][]Value{{v}}
	for len(open) > 0 {
		last := len(open) - 1
		items := open[last]
		open = open[:last]
		for _, item := range items {
			if !keepsToKind(item) {
				return false
			}
			if at := placeOf(item.Items); !seen[at] {
				seen[at] = true
				open = append(open, item.Items)
			}
		}
	}
	return true
}

// keepsToKind reports whether a value has a kind and uses only the fields of its kind.
func keepsToKind(v Value) bool {
	switch v.Kind {
	case Number:
		return v.S == "" && len(v.Items) == 0
	case Text:
		return v.N == 0 && len(v.Items) == 0
	case List:
		return v.N == 0 && v.S == ""
	}
	return false
}

// fits reports whether a possible value keeps to MaxDepth and its encoding to MaxBytes. It stops at the first excess.
func fits(v Value) bool {
	left := MaxBytes
	var take func(v Value, depth int) bool
	take = func(v Value, depth int) bool {
		_, n := head(v)
		left -= 1 + countLength(n) + len(v.S)
		if left < 0 || v.Kind == List && depth == 0 {
			return false
		}
		for _, item := range v.Items {
			if !take(item, depth-1) {
				return false
			}
		}
		return true
	}
	return take(v, MaxDepth)
}

// head returns the letter and the count with which the encoding of a possible value begins.
func head(v Value) (byte, uint64) {
	switch v.Kind {
	case Number:
		// The sign becomes the lowest bit: 2n, or -2n - 1 for a negative n.
		return 'n', uint64(v.N<<1 ^ v.N>>63)
	case Text:
		return 't', uint64(len(v.S))
	}
	return 'l', uint64(len(v.Items))
}

func countLength(n uint64) int { return max(1, (bits.Len64(n)+6)/7) }

func appendCount(out []byte, n uint64) []byte {
	for n >= 128 {
		out = append(out, byte(n&127)+128)
		n >>= 7
	}
	return append(out, byte(n))
}

func appendValue(out []byte, v Value) []byte {
	letter, n := head(v)
	out = appendCount(append(out, letter), n)
	out = append(out, v.S...)
	for _, item := range v.Items {
		out = appendValue(out, item)
	}
	return out
}
