package codec_test

import (
	"math"
	"reflect"
	"strings"
	"testing"

	"gangsaw/api"
	"gangsaw/codec"
)

func num(n int64) codec.Value              { return codec.Num(n) }
func str(s string) codec.Value             { return codec.Str(s) }
func seq(items ...codec.Value) codec.Value { return codec.Seq(items...) }

// nested returns a number within so many lists.
func nested(depth int) codec.Value {
	v := num(7)
	for range depth {
		v = codec.Value{Kind: codec.List, Items: []codec.Value{v}}
	}
	return v
}

// nestedText returns its encoding.
func nestedText(depth int) string { return strings.Repeat("l\x01", depth) + "n\x0e" }

// endless returns a list whose items are so many times the list itself.
func endless(width int) codec.Value {
	v := codec.Value{Kind: codec.List, Items: make([]codec.Value, width)}
	for i := range v.Items {
		v.Items[i] = v
	}
	return v
}

// shared returns a list whose tree has 2^levels leaves, although every list is in memory only once.
func shared(levels int) codec.Value {
	v := num(1)
	for range levels {
		v = codec.Value{Kind: codec.List, Items: []codec.Value{v, v}}
	}
	return v
}

func same(a, b codec.Value) bool {
	if a.Kind != b.Kind || a.N != b.N || a.S != b.S || len(a.Items) != len(b.Items) {
		return false
	}
	for i := range a.Items {
		if !same(a.Items[i], b.Items[i]) {
			return false
		}
	}
	return true
}

// encoding is a value with its encoding.
type encoding struct {
	v codec.Value
	s string
}

func encodings() []encoding {
	return []encoding{
		{num(0), "n\x00"},
		{num(1), "n\x02"},
		{num(-1), "n\x01"},
		{num(63), "n\x7e"},
		{num(-64), "n\x7f"},
		{num(64), "n\x80\x01"},
		{num(-65), "n\x81\x01"},
		{num(8191), "n\xfe\x7f"},
		{num(8192), "n\x80\x80\x01"},
		{num(math.MaxInt64), "n\xfe\xff\xff\xff\xff\xff\xff\xff\xff\x01"},
		{num(math.MinInt64), "n\xff\xff\xff\xff\xff\xff\xff\xff\xff\x01"},
		{str(""), "t\x00"},
		{str("ab"), "t\x02ab"},
		{str("\x00\xff"), "t\x02\x00\xff"},
		{str(strings.Repeat("x", 127)), "t\x7f" + strings.Repeat("x", 127)},
		{str(strings.Repeat("x", 128)), "t\x80\x01" + strings.Repeat("x", 128)},
		{seq(), "l\x00"},
		{seq(num(1), str("ab")), "l\x02n\x02t\x02ab"},
		{seq(seq(), seq(seq(), num(-1))), "l\x02l\x00l\x02l\x00n\x01"},
		{codec.Value{Kind: codec.List, Items: make([]codec.Value, 0)}, "l\x00"},
		{codec.Value{Kind: codec.Number, N: 5, Items: []codec.Value{}}, "n\x0a"},
		{nested(codec.MaxDepth), nestedText(codec.MaxDepth)},
	}
}

// P2.1
func TestConstructors(t *testing.T) {
	if v := codec.Num(-3); !same(v, codec.Value{Kind: codec.Number, N: -3}) {
		t.Errorf("Num: %v", v)
	}
	if v := codec.Str("a"); !same(v, codec.Value{Kind: codec.Text, S: "a"}) {
		t.Errorf("Str: %v", v)
	}
	if v := codec.Seq(); !same(v, codec.Value{Kind: codec.List}) {
		t.Errorf("Seq of nothing: %v", v)
	}
	items := []codec.Value{{Kind: codec.Number, N: 1}, {Kind: codec.Text, S: "b"}}
	if v := codec.Seq(items...); !same(v, codec.Value{Kind: codec.List, Items: items}) {
		t.Errorf("Seq: %v", v)
	}
	// Seq takes impossible values, too: only Check and Encode refuse them.
	odd := codec.Value{Kind: 9, N: 1, S: "x", Items: items}
	if v := codec.Seq(odd); len(v.Items) != 1 || !same(v.Items[0], odd) {
		t.Errorf("Seq of an impossible value: %v", v)
	}
}

// P2.1 and the Rules: results share no memory with arguments, at any depth.
func TestSeqCopies(t *testing.T) {
	inner := []codec.Value{num(1), num(2)}
	middle := []codec.Value{{Kind: codec.List, Items: inner}}
	outer := []codec.Value{{Kind: codec.List, Items: middle}, {Kind: codec.List, Items: inner}}
	v := codec.Seq(outer...)
	want, _ := codec.Encode(v)
	inner[0], middle[0], outer[1] = num(9), num(9), num(9)
	if got, _ := codec.Encode(v); got != want {
		t.Errorf("Seq shares memory with its arguments: %q, not %q", got, want)
	}
	v.Items[1].Items[0] = str("x")
	if got := v.Items[0].Items[0].Items[0]; !same(got, num(1)) {
		t.Errorf("lists of a result of Seq share memory: %v", got)
	}
}

// P2.1
func TestEncode(t *testing.T) {
	for _, c := range encodings() {
		if e := codec.Check(c.v); e != api.OK {
			t.Errorf("Check of %v: %d", c.v, e)
		}
		if s, e := codec.Encode(c.v); s != c.s || e != api.OK {
			t.Errorf("Encode of %v: %q, %d, want %q", c.v, s, e, c.s)
		}
	}
}

// P2.1, and P1: the errors in their order, with zero results.
func TestRefusedValues(t *testing.T) {
	list := []codec.Value{num(1)}
	impossible := codec.Value{Kind: codec.Text, N: 1}
	long := str(strings.Repeat("x", codec.MaxBytes-3))
	for i, c := range []struct {
		v    codec.Value
		want api.Errno
	}{
		{codec.Value{}, api.ErrInvalid},
		{codec.Value{Kind: -1}, api.ErrInvalid},
		{codec.Value{Kind: 4}, api.ErrInvalid},
		{codec.Value{Kind: codec.Number, S: "x"}, api.ErrInvalid},
		{codec.Value{Kind: codec.Number, Items: list}, api.ErrInvalid},
		{codec.Value{Kind: codec.Text, N: 1}, api.ErrInvalid},
		{codec.Value{Kind: codec.Text, Items: list}, api.ErrInvalid},
		{codec.Value{Kind: codec.List, N: 1}, api.ErrInvalid},
		{codec.Value{Kind: codec.List, S: "x"}, api.ErrInvalid},
		{seq(num(1), codec.Value{}), api.ErrInvalid},
		{seq(seq(num(1)), seq(seq(impossible)), num(2)), api.ErrInvalid},
		{nested(codec.MaxDepth + 1), api.ErrTooMany},
		{seq(num(1), nested(codec.MaxDepth), num(2)), api.ErrTooMany},
		{nested(1 << 16), api.ErrTooMany},
		{seq(nested(codec.MaxDepth+5), impossible), api.ErrInvalid},
		{seq(impossible, nested(codec.MaxDepth+5)), api.ErrInvalid},
		{long, api.ErrTooMany},
		{seq(long, impossible), api.ErrInvalid},
		{seq(long, num(1), codec.Value{Kind: codec.List, S: "x"}), api.ErrInvalid},
		{shared(codec.MaxDepth + 1), api.ErrTooMany},
	} {
		if e := codec.Check(c.v); e != c.want {
			t.Errorf("Check of value %d: %d, want %d", i, e, c.want)
		}
		if s, e := codec.Encode(c.v); s != "" || e != c.want {
			t.Errorf("Encode of value %d: %d bytes, %d, want %d", i, len(s), e, c.want)
		}
	}
}

// P2.1: the limits are met exactly.
func TestLimitsOfValues(t *testing.T) {
	empty := codec.Value{Kind: codec.List}
	for range codec.MaxDepth - 1 {
		empty = seq(empty)
	}
	if e := codec.Check(empty); e != api.OK {
		t.Errorf("Check of an empty list within 15 lists: %d", e)
	}
	if e := codec.Check(seq(empty)); e != api.ErrTooMany {
		t.Errorf("Check of an empty list within 16 lists: %d", e)
	}
	const text = codec.MaxBytes - 4 // a letter and three groups stand before it
	for _, c := range []struct {
		v    codec.Value
		want api.Errno
	}{
		{str(strings.Repeat("x", text)), api.OK},
		{str(strings.Repeat("x", text+1)), api.ErrTooMany},
		{seq(str(strings.Repeat("x", text-4)), num(0)), api.OK},
		{seq(str(strings.Repeat("x", text-4)), num(64)), api.ErrTooMany},
		{seq(str(strings.Repeat("x", text-4)), seq(), seq()), api.ErrTooMany},
		{codec.Value{Kind: codec.List, Items: zeros((codec.MaxBytes - 4) / 2)}, api.OK},
		{codec.Value{Kind: codec.List, Items: zeros((codec.MaxBytes-4)/2 + 1)}, api.ErrTooMany},
	} {
		s, e := codec.Encode(c.v)
		if e != c.want || codec.Check(c.v) != c.want || e == api.OK && len(s) != codec.MaxBytes {
			t.Errorf("Encode: %d bytes, %d, want %d", len(s), e, c.want)
		}
		if v, d := codec.Decode(s); e == api.OK && (d != api.OK || !same(v, c.v)) {
			t.Errorf("Decode of %d bytes: %d", len(s), d)
		}
	}
}

func zeros(n int) []codec.Value {
	out := make([]codec.Value, n)
	for i := range out {
		out[i] = num(0)
	}
	return out
}

// P2.2
func TestDecodeAndFirst(t *testing.T) {
	for _, c := range encodings() {
		if v, e := codec.Decode(c.s); e != api.OK || !same(v, c.v) {
			t.Errorf("Decode of %q: %v, %d", c.s, v, e)
		}
		for _, more := range []string{"", "n", "\x00", "l\x01", "anything"} {
			v, n, e := codec.First(c.s + more)
			if e != api.OK || n != len(c.s) || !same(v, c.v) {
				t.Errorf("First of %q: %v, %d, %d", c.s+more, v, n, e)
			}
		}
	}
}

// P2.2, and P1: what is refused, with zero results.
func TestRefusedStrings(t *testing.T) {
	for _, s := range []string{
		"", "n", "t", "l", "x", "\x00", "x\x00", "N\x00", "\x6d\x00",
		"n\x80", "n\x80\x00", "n\x80\x80\x00", "n\xff\xff\x00", "t\x80\x00", "l\x80\x00", "t\x81\x00a",
		"n\xff\xff\xff\xff\xff\xff\xff\xff\xff\x02",
		"n\xff\xff\xff\xff\xff\xff\xff\xff\xff\x03",
		"n\x80\x80\x80\x80\x80\x80\x80\x80\x80\x80\x01",
		"n\xff\xff\xff\xff\xff\xff\xff\xff\xff\x81\x00",
		"t\x01", "t\x03ab", "t\x80\x01ab", "t\xff\xff\xff\xff\xff\xff\xff\xff\xff\x01ab", "t\xff\xff\xff\xff\xff\xff\xff\xff\x7fab",
		"l\x01", "l\x01l", "l\x02n\x00", "l\x02n\x00n", "l\x02n\x00x\x00", "l\x01t\x05abcd",
		"l\xff\xff\xff\xff\xff\xff\xff\xff\xff\x01n\x00", "l\x80\x80\x80\x80\x80\x80\x80\x80\x80\x80n\x00",
		nestedText(codec.MaxDepth + 1),
		strings.Repeat("l\x01", codec.MaxDepth) + "l\x00",
		strings.Repeat("l\x01", codec.MaxBytes/2),
		strings.Repeat("\xff", codec.MaxBytes),
	} {
		short := s[:min(len(s), 20)]
		if v, e := codec.Decode(s); e != api.ErrSyntax || !same(v, codec.Value{}) {
			t.Errorf("Decode of %q: %v, %d", short, v, e)
		}
		if v, n, e := codec.First(s); e != api.ErrSyntax || n != 0 || !same(v, codec.Value{}) {
			t.Errorf("First of %q: %v, %d, %d", short, v, n, e)
		}
	}
	for _, s := range []string{"n\x00n", "n\x00\x00", "t\x00a", "l\x00l\x00", "l\x01n\x00n\x00", strings.Repeat("n", codec.MaxBytes)} {
		if v, e := codec.Decode(s); e != api.ErrSyntax || !same(v, codec.Value{}) {
			t.Errorf("Decode of %q: %v, %d", s[:min(len(s), 20)], v, e)
		}
	}
}

// P2.2, and P1: the length comes first, whatever the string contains.
func TestTooLongStrings(t *testing.T) {
	for _, s := range []string{
		strings.Repeat("x", codec.MaxBytes+1),
		"n\x00" + strings.Repeat("x", codec.MaxBytes-1),
		"t\xbd\x84\x3d" + strings.Repeat("x", codec.MaxBytes-3),
	} {
		if v, e := codec.Decode(s); e != api.ErrTooMany || !same(v, codec.Value{}) {
			t.Errorf("Decode of %d bytes: %v, %d", len(s), v.Kind, e)
		}
		if v, n, e := codec.First(s); e != api.ErrTooMany || n != 0 || !same(v, codec.Value{}) {
			t.Errorf("First of %d bytes: %v, %d, %d", len(s), v.Kind, n, e)
		}
	}
	s := "n\x00" + strings.Repeat("x", codec.MaxBytes-2)
	if v, n, e := codec.First(s); e != api.OK || n != 2 || !same(v, num(0)) {
		t.Errorf("First of %d bytes: %v, %d, %d", len(s), v, n, e)
	}
}

// P2.4
func TestDigest(t *testing.T) {
	all := make([]byte, 256)
	for i := range all {
		all[i] = byte(i)
	}
	for s, want := range map[string]string{
		"":             "9e3779b9e17d05ac",
		"a":            "1a07cb73f84c7e25",
		"b":            "1ab61b9bee403312",
		"ab":           "d2b8a458460e5fbb",
		"ba":           "da9ec4a1d9d6845d",
		"\x00":         "038f764979ddad8a",
		"\x00\x00":     "5c5debb9cd78cbf4",
		"\xff":         "6fd33f2d7de3575d",
		"gangsaw":      "5b12a39cbf2cea3c",
		"Stein \u00e4": "d765f392c86abe81",
		"1306":         "000fb7df18d0c0cf",
		string(all):    "170c557670b46ece",
	} {
		if got := codec.Digest(s); got != want {
			t.Errorf("Digest of %q: %q, want %q", s, got, want)
		}
	}
}

// P1: lists that contain themselves, or are contained in many places, do not keep the functions from ending.
func TestEndlessLists(t *testing.T) {
	for _, v := range []codec.Value{endless(1), endless(2), endless(3), nested(1 << 17), shared(60)} {
		if e := codec.Check(v); e != api.ErrTooMany {
			t.Errorf("Check: %d", e)
		}
		if s, e := codec.Encode(v); s != "" || e != api.ErrTooMany {
			t.Errorf("Encode: %d", e)
		}
		if !codec.Equal(v, v) || codec.Compare(v, num(1)) != 1 || codec.Compare(num(1), v) != -1 {
			t.Error("Compare")
		}
	}
	if codec.Compare(endless(1), endless(1)) != 0 || codec.Compare(endless(1), endless(2)) == 0 {
		t.Error("Compare of endless lists")
	}
	if c := codec.Compare(seq(shared(3), num(1)), seq(shared(3), num(2))); c != -1 {
		t.Errorf("Compare behind equal lists: %d", c)
	}
	impossible := endless(2)
	impossible.Items[1] = codec.Value{Kind: 7}
	if e := codec.Check(impossible); e != api.ErrInvalid {
		t.Errorf("Check: %d", e)
	}
	items := []codec.Value{endless(2)}
	v := codec.Seq(items...)
	items[0] = num(1)
	if v.Kind != codec.List || len(v.Items) != 1 || len(v.Items[0].Items) != 2 {
		t.Errorf("Seq: %d, %d items", v.Kind, len(v.Items))
	}
}

// The Rules: arguments are not modified, and two results share no memory.
func TestValuesAreLeftAlone(t *testing.T) {
	v, w := seq(num(2), seq(str("a"), num(1))), seq(num(2), seq(str("a"), num(1)))
	s, _ := codec.Encode(v)
	codec.Check(v)
	codec.Compare(v, seq(num(2), seq(str("b"))))
	codec.Equal(seq(num(2)), v)
	if !reflect.DeepEqual(v, w) {
		t.Errorf("the value was changed to %v", v)
	}
	first, _ := codec.Decode(s)
	second, _ := codec.Decode(s)
	first.Items[1].Items[0] = num(9)
	if !same(second, w) {
		t.Errorf("two results share memory: %v", second)
	}
}
