package codec

import "strings"

// reader reads encodings from a text, from an offset on. Its methods report false if there is no well-formed encoding.
type reader struct {
	text string
	at   int
}

// value reads a value of a depth of at most depth.
func (r *reader) value(depth int) (Value, bool) {
	letter, ok := r.next()
	if !ok {
		return Value{}, false
	}
	n, ok := r.count()
	if !ok {
		return Value{}, false
	}
	switch letter {
	case 'n':
		return Num(int64(n>>1) ^ -int64(n&1)), true
	case 't':
		s, ok := r.bytes(n)
		return Str(s), ok
	case 'l':
		items, ok := r.items(n, depth-1)
		return Value{Kind: List, Items: items}, ok
	}
	return Value{}, false
}

// items reads so many values of a depth of at most depth, as long as there are any.
func (r *reader) items(n uint64, depth int) ([]Value, bool) {
	if depth < 0 {
		return nil, false
	}
	var out []Value
	for range n {
		v, ok := r.value(depth)
		if !ok {
			return nil, false
		}
		out = append(out, v)
	}
	return out, true
}

// count reads a count with no group too many.
func (r *reader) count() (uint64, bool) {
	var n uint64
	for shift := 0; shift < 64; shift += 7 {
		b, ok := r.next()
		group := uint64(b & 127)
		if !ok || group<<shift>>shift != group {
			return 0, false
		}
		n |= group << shift
		if b < 128 {
			return n, b > 0 || shift == 0
		}
	}
	return 0, false
}

func (r *reader) bytes(n uint64) (string, bool) {
	if n > uint64(len(r.text)-r.at) {
		return "", false
	}
	from := r.at
	r.at += int(n)
	return strings.Clone(r.text[from:r.at]), true
}

func (r *reader) next() (byte, bool) {
	if r.at == len(r.text) {
		return 0, false
	}
	r.at++
	return r.text[r.at-1], true
}
