package parser

import (
	"iter"
	"slices"

	"gangsaw/api"
	"gangsaw/lexer"
)

// maxLevels is well above 2^16, the levels of nesting for which the document promises anything: a deeper tree is taken for one that contains itself. The walks recognize lines that they have met by their places in memory, so that they end for such trees, too.
const maxLevels = 1 << 17

// Check returns OK for a well-formed tree, or the first error.
func Check(lines []api.Line) api.Errno {
	tooMany := Measure(lines).Depth > api.MaxIndent+1
	for l := range each(lines) {
		if !possible(l) {
			return api.ErrInvalid
		}
		tooMany = tooMany || crowded(l)
	}
	if tooMany {
		return api.ErrTooMany
	}
	return api.OK
}

// Measure returns the totals of a tree.
func Measure(lines []api.Line) Total {
	known := map[*api.Line]Total{}
	var measure func(lines []api.Line) Total
	measure = func(lines []api.Line) Total {
		var sum Total
		for i := range lines {
			l := &lines[i]
			t, met := known[l]
			if !met {
				known[l] = Total{Depth: maxLevels} // what it counts for within itself
				t = measure(l.Kids)
				t.Lines++
				t.Tokens += len(l.Tokens)
				t.Depth++
				known[l] = t
			}
			sum.Lines += t.Lines
			sum.Tokens += t.Tokens
			sum.Depth = max(sum.Depth, t.Depth)
		}
		return sum
	}
	return measure(lines)
}

// Same reports whether two trees are equal, apart from numbers of lines and columns.
func Same(a, b []api.Line) bool {
	met := map[[2]*api.Line]bool{}
	var same func(a, b []api.Line) bool
	same = func(a, b []api.Line) bool {
		if len(a) != len(b) {
			return false
		}
		for i := range a {
			pair := [2]*api.Line{&a[i], &b[i]}
			if met[pair] {
				continue
			}
			met[pair] = true
			if !alike(&a[i], &b[i]) || !same(a[i].Kids, b[i].Kids) {
				return false
			}
		}
		return true
	}
	return same(a, b)
}

// each produces the lines of a tree, each place in memory once.
func each(lines []api.Line) iter.Seq[*api.Line] {
	return func(yield func(*api.Line) bool) {
		met := map[*api.Line]bool{}
		open := [][]api.Line{lines}
		for len(open) > 0 {
			last := len(open) - 1
			list := open[last]
			open = open[:last]
			for i := range list {
				l := &list[i]
				if met[l] {
					continue
				}
				met[l] = true
				if !yield(l) {
					return
				}
				open = append(open, l.Kids)
			}
		}
	}
}

// possible reports whether a line has possible tokens, at least one, and ends and has kids as a heading or another line may.
func possible(l *api.Line) bool {
	for _, t := range l.Tokens {
		if !lexer.Valid(t) {
			return false
		}
	}
	n := len(l.Tokens)
	return n > 0 && (l.Heading || len(l.Kids) == 0 && !isColon(l.Tokens[n-1]))
}

// crowded reports whether a line has too many tokens.
func crowded(l *api.Line) bool {
	most := lexer.MaxTokens
	if l.Heading {
		// Its colon counts, too.
		most--
	}
	return len(l.Tokens) > most
}

// alike reports whether two lines are equal without their kids, apart from numbers of lines and columns.
func alike(a, b *api.Line) bool {
	return a.Heading == b.Heading && slices.EqualFunc(a.Tokens, b.Tokens, func(s, t api.Token) bool {
		s.At, t.At = 0, 0
		return s == t
	})
}

func isColon(t api.Token) bool { return t.Kind == api.TokSign && t.Text == ":" }
