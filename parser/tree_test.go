package parser_test

import (
	"math"
	"slices"
	"strings"
	"testing"

	"gangsaw/api"
	"gangsaw/lexer"
	"gangsaw/parser"
)

// plain returns a line that is no heading.
func plain(tokens ...api.Token) api.Line { return api.Line{Tokens: tokens} }

// head returns a heading of one word with kids.
func head(s string, kids ...api.Line) api.Line {
	return api.Line{Tokens: []api.Token{word(s)}, Heading: true, Kids: kids}
}

// nested returns a heading, with so many lines within each other in all.
func nested(levels int) api.Line {
	l := plain(word("a"))
	for range levels - 1 {
		l = head("a", l)
	}
	return l
}

// crowd returns a line with so many tokens.
func crowd(tokens int, heading bool) api.Line {
	return api.Line{Tokens: slices.Repeat([]api.Token{word("a")}, tokens), Heading: heading}
}

// P10.2: trees that are well formed, whatever their numbers are.
func TestWellFormedTrees(t *testing.T) {
	numbered := plain(word("a"))
	numbered.At, numbered.Tokens[0].At = math.MinInt, math.MaxInt
	long := plain(slices.Repeat([]api.Token{text(strings.Repeat("x", 40))}, 64)...)
	for name, lines := range map[string][]api.Line{
		"no lines":                      nil,
		"an empty list":                 {},
		"a line":                        {plain(word("a"), num(5), text("b c"), sign("("))},
		"numbers of lines and columns":  {numbered, numbered},
		"a heading with kids":           {head("a", plain(num(1)), head("b"), plain(num(2)))},
		"a heading with a colon":        {{Tokens: []api.Token{sign(":")}, Heading: true}},
		"a heading with a second colon": {{Tokens: []api.Token{word("a"), sign(":")}, Heading: true}},
		"a colon within":                {plain(sign(":"), word("a"))},
		"a text of a colon at the end":  {plain(text(":"))},
		"64 tokens":                     {crowd(64, false), head("a", crowd(64, false))},
		"63 tokens of a heading":        {crowd(63, true)},
		"7 levels":                      {plain(word("a")), nested(7), nested(7)},
		"more bytes than a line has":    {long},
	} {
		if e := parser.Check(lines); e != api.OK {
			t.Errorf("Check of %s: %d", name, e)
		}
	}
}

// wrongLines are lines that are not possible in any tree.
func wrongLines() map[string]api.Line {
	return map[string]api.Line{
		"no token":                   {},
		"a heading without tokens":   {Heading: true},
		"an empty list of tokens":    {Tokens: []api.Token{}},
		"a token without a kind":     plain(api.Token{}),
		"a word that is none":        plain(word("a b")),
		"a wrong last token":         plain(word("a"), num(lexer.MaxNumber+1)),
		"a wrong token in a heading": {Tokens: []api.Token{word("a"), text("")}, Heading: true},
		"a colon at the end":         plain(word("a"), sign(":")),
		"a colon alone":              plain(sign(":")),
		"kids without a heading":     {Tokens: []api.Token{word("a")}, Kids: []api.Line{plain(word("b"))}},
	}
}

// P1 and P10.2: a line that is not possible is refused at every place, before what is too much.
func TestErrInvalidOfCheck(t *testing.T) {
	for name, l := range wrongLines() {
		good := plain(word("a"))
		for place, lines := range map[string][]api.Line{
			"alone":                    {l},
			"first":                    {l, good},
			"last":                     {good, good, l},
			"a kid":                    {good, head("a", good, l, good)},
			"deep":                     {head("a", good, head("b", head("c", l)))},
			"too deep":                 {head("a", head("b", head("c", head("d", head("e", head("f", head("g", l)))))))},
			"behind what is too deep":  {nested(9), l},
			"before what is too deep":  {l, nested(9)},
			"behind too many tokens":   {crowd(65, false), head("a", l)},
			"before too many tokens":   {head("a", l), crowd(64, true)},
			"below too many tokens":    {{Tokens: crowd(64, true).Tokens, Heading: true, Kids: []api.Line{l}}},
			"among many lines":         slices.Concat(slices.Repeat([]api.Line{good}, 5000), []api.Line{l}),
			"in a list met twice":      {head("a", l), head("a", l)},
			"with too many of its own": {{Tokens: append(crowd(70, false).Tokens, l.Tokens...), Heading: l.Heading, Kids: l.Kids}, l},
		} {
			if e := parser.Check(lines); e != api.ErrInvalid {
				t.Errorf("Check of a line with %s, %s: %d", name, place, e)
			}
		}
	}
}

// P1 and P10.2: too many tokens, and lines too deep.
func TestErrTooManyOfCheck(t *testing.T) {
	for name, lines := range map[string][]api.Line{
		"65 tokens":                    {crowd(65, false)},
		"64 tokens of a heading":       {crowd(64, true)},
		"1000 tokens":                  {crowd(1000, false)},
		"65 tokens of the last line":   {plain(word("a")), crowd(65, false)},
		"65 tokens of a kid":           {head("a", plain(word("a")), crowd(65, false))},
		"64 tokens of a heading deep":  {head("a", head("b", crowd(64, true)))},
		"8 levels":                     {nested(8)},
		"8 levels of headings":         {head("a", head("b", head("c", head("d", head("e", head("f", head("g", head("h"))))))))},
		"8 levels behind others":       {nested(7), plain(word("a")), nested(8)},
		"8 levels in front of others":  {nested(8), plain(word("a"))},
		"many levels":                  {nested(1 << 16)},
		"many levels, too many tokens": {nested(9), crowd(65, false)},
	} {
		if e := parser.Check(lines); e != api.ErrTooMany {
			t.Errorf("Check of %s: %d", name, e)
		}
	}
}

// P10.2: the totals of trees, those that are not well formed among them.
func TestMeasure(t *testing.T) {
	kids := []api.Line{plain(), plain(num(1), num(2))}
	shared := []api.Line{head("a", kids...), {Kids: kids}, plain(word("b"))}
	for name, c := range map[string]struct {
		lines []api.Line
		want  parser.Total
	}{
		"no lines":              {nil, parser.Total{}},
		"an empty list":         {[]api.Line{}, parser.Total{}},
		"a line without tokens": {[]api.Line{{}}, parser.Total{Lines: 1, Depth: 1}},
		"two lines":             {[]api.Line{plain(num(1), num(2)), plain(api.Token{})}, parser.Total{Lines: 2, Tokens: 3, Depth: 1}},
		"an empty list of kids": {[]api.Line{{Heading: true, Kids: []api.Line{}}}, parser.Total{Lines: 1, Depth: 1}},
		"kids in two places":    {shared, parser.Total{Lines: 7, Tokens: 6, Depth: 2}},
		"a list and its kids":   {append(slices.Clone(kids), head("a", kids...)), parser.Total{Lines: 5, Tokens: 5, Depth: 2}},
		"the deepest is first":  {[]api.Line{nested(5), nested(2)}, parser.Total{Lines: 7, Tokens: 7, Depth: 5}},
		"the deepest is last":   {[]api.Line{nested(2), plain(word("a")), nested(4)}, parser.Total{Lines: 7, Tokens: 7, Depth: 4}},
		"many levels":           {[]api.Line{nested(1 << 16)}, parser.Total{Lines: 1 << 16, Tokens: 1 << 16, Depth: 1 << 16}},
		"many tokens":           {[]api.Line{crowd(1000, true)}, parser.Total{Lines: 1, Tokens: 1000, Depth: 1}},
	} {
		if got := parser.Measure(c.lines); got != c.want {
			t.Errorf("Measure of %s: %v, want %v", name, got, c.want)
		}
	}
}

// different returns trees of which no two are the same.
func different() [][]api.Line {
	return [][]api.Line{
		nil,
		{plain()},
		{plain(), plain()},
		{plain(word("a"))},
		{plain(text("a"))},
		{plain(sign("a"))},
		{plain(word("b"))},
		{plain(api.Token{Kind: api.TokWord, Text: "a", N: 1})},
		{plain(num(1))},
		{plain(num(2))},
		{plain(word("a"), word("a"))},
		{plain(word("a")), plain(word("a"))},
		{head("a")},
		{head("a"), plain()},
		{{Tokens: []api.Token{word("a")}, Kids: []api.Line{plain()}}},
		{head("a", plain())},
		{head("a", plain()), head("a")},
		{head("a"), head("a", plain())},
		{head("a", plain(), plain())},
		{head("a", plain(), plain(word("a")))},
		{head("a", plain(word("a")), plain())},
		{head("a", head("a"))},
		{head("a", head("a", head("a")))},
		{head("a", head("a", head("b")))},
		{head("a", head("a", plain(num(1)), plain(num(2))))},
		{head("a", head("a", plain(num(1))), plain(num(2)))},
	}
}

// moved returns a copy of a tree with other numbers of lines and columns, and empty lists instead of nil.
func moved(lines []api.Line, by int) []api.Line {
	out := []api.Line{}
	for _, l := range lines {
		m := api.Line{Tokens: []api.Token{}, Heading: l.Heading, Kids: moved(l.Kids, by*3), At: l.At + by}
		for i, token := range l.Tokens {
			token.At += by * i
			m.Tokens = append(m.Tokens, token)
		}
		out = append(out, m)
	}
	return out
}

// P10.2: trees are the same if they have the same lines, tokens and kids.
func TestSame(t *testing.T) {
	list := different()
	for i, a := range list {
		for k, b := range list {
			if got := parser.Same(a, moved(b, 5)); got != (i == k) {
				t.Errorf("Same of %v and %v: %v", a, b, got)
			}
		}
		if !parser.Same(a, a) {
			t.Errorf("Same of %v and itself", a)
		}
	}
	// Lists that begin at the same place differ if one of them ends earlier.
	kids := []api.Line{plain(word("a")), plain(word("b"))}
	long := []api.Line{head("x", kids...), head("y", kids[:1]...)}
	if parser.Same(kids, kids[:1]) || parser.Same(long, []api.Line{head("x", kids...), head("y", kids...)}) {
		t.Error("lists of different lengths are the same")
	}
}

// P1: calls end for trees that are very deep, share their parts, or contain themselves.
func TestCallsEnd(t *testing.T) {
	deep := []api.Line{nested(1 << 16)}
	if got := parser.Pick(deep, "a"); !parser.Same(got, deep) || parser.Measure(got).Depth != 1<<16 {
		t.Error("Pick of a deep tree")
	}
	branching := []api.Line{plain(word("a"))}
	for range 50 {
		branching = []api.Line{head("a", branching...), head("a", branching...)}
	}
	if total := parser.Measure(branching); total.Lines != 1<<50+1<<51-2 || total.Depth != 51 {
		t.Errorf("Measure of a tree with shared parts: %v", total)
	}
	if e := parser.Check(branching); e != api.ErrTooMany {
		t.Errorf("Check of a tree with shared parts: %d", e)
	}
	if !parser.Same(branching, slices.Clone(branching)) {
		t.Error("Same of a tree with shared parts")
	}
}

// endless returns a tree that contains itself.
func endless() []api.Line {
	lines := []api.Line{head("a"), head("b"), plain(word("c"))}
	lines[0].Kids = lines
	lines[1].Kids = lines[1:]
	return lines
}

// P1: calls end for trees that contain themselves.
func TestCallsEndForEndlessTrees(t *testing.T) {
	lines := endless()
	if e := parser.Check(lines); e != api.ErrTooMany {
		t.Errorf("Check: %d", e)
	}
	if e := parser.Check(append(endless(), plain())); e != api.ErrInvalid {
		t.Errorf("Check: %d", e)
	}
	if total := parser.Measure(lines); total.Depth <= 1<<16 {
		t.Errorf("Measure: %v", total)
	}
	other := endless()
	if !parser.Same(lines, other) {
		t.Error("Same of equal trees")
	}
	other[2] = plain(word("d"))
	if parser.Same(lines, other) {
		t.Error("Same of different trees")
	}
	parser.Pick(lines, "a")
	if got := parser.Pick(lines, "c"); len(got) != 1 || !parser.Same(got, lines[2:]) {
		t.Errorf("Pick: %v", got)
	}
	if f := parser.Only(lines, []string{"a", "b", "c"}); f != (api.Fault{}) {
		t.Errorf("Only: %v", f)
	}
	if f := parser.Shape(lines[0], []string{"a"}); f != (api.Fault{}) {
		t.Errorf("Shape: %v", f)
	}
}
