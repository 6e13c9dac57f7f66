package parser_test

import (
	"reflect"
	"slices"
	"strings"
	"testing"

	"gangsaw/api"
	"gangsaw/lexer"
	"gangsaw/parser"
)

// Tokens without columns.
func word(s string) api.Token { return api.Token{Kind: api.TokWord, Text: s} }
func num(n int64) api.Token   { return api.Token{Kind: api.TokNumber, N: n} }
func text(s string) api.Token { return api.Token{Kind: api.TokText, Text: s} }
func sign(s string) api.Token { return api.Token{Kind: api.TokSign, Text: s} }

// source returns the source of some lines.
func source(lines ...string) string { return strings.Join(lines, "\n") + "\n" }

// tree returns the tree of some lines, which must have one.
func tree(t *testing.T, lines ...string) []api.Line {
	t.Helper()
	out, f := parser.Parse(source(lines...))
	if f != (api.Fault{}) {
		t.Fatalf("Parse of %q: %v", lines, f)
	}
	return out
}

// equal compares two trees with all numbers; nil and empty lists are the same.
func equal(a, b []api.Line) bool {
	return slices.EqualFunc(a, b, func(x, y api.Line) bool {
		return x.At == y.At && x.Heading == y.Heading && slices.Equal(x.Tokens, y.Tokens) && equal(x.Kids, y.Kids)
	})
}

// P10.1: the first example of the chapter.
func TestExampleOfParse(t *testing.T) {
	at := func(col int, token api.Token) api.Token {
		token.At = col
		return token
	}
	want := []api.Line{
		{Tokens: []api.Token{at(1, word("wall")), at(6, word("south"))}, Heading: true, At: 1, Kids: []api.Line{
			{Tokens: []api.Token{at(3, word("stone")), at(9, word("a")), at(11, num(100))}, At: 2},
			{Tokens: []api.Token{at(3, word("stone")), at(9, word("b")), at(11, num(120))}, At: 3},
		}},
		{Tokens: []api.Token{at(1, word("note"))}, At: 4},
	}
	for _, s := range []string{"wall south:\n  stone a 100\n  stone b 120\nnote", "wall south:\n  stone a 100\n  stone b 120\nnote\n"} {
		got, f := parser.Parse(s)
		if f != (api.Fault{}) || !equal(got, want) {
			t.Errorf("Parse: %v, %v", got, f)
		}
		if total := parser.Measure(got); total != (parser.Total{Lines: 4, Tokens: 9, Depth: 2}) {
			t.Errorf("Measure: %v", total)
		}
	}
}

// P10.1: a source without tokens has an empty tree.
func TestSourcesWithoutTokens(t *testing.T) {
	for _, s := range []string{"", "\n", "\n\n", " ", "   # odd", "# a\n  # b\n", "                  #"} {
		if got, f := parser.Parse(s); len(got) != 0 || f != (api.Fault{}) {
			t.Errorf("Parse of %q: %v, %v", s, got, f)
		}
	}
}

// P10.1: what the document says about depths, the second example among it.
func TestFaultsOfDepths(t *testing.T) {
	for _, c := range []struct {
		lines []string
		want  api.Fault
	}{
		{[]string{"note", "  stone a"}, api.Fault{Code: api.ErrSyntax, Line: 2, Col: 3}},
		{[]string{"  a"}, api.Fault{Code: api.ErrSyntax, Line: 1, Col: 3}},
		{[]string{"", "# x", "    a:"}, api.Fault{Code: api.ErrSyntax, Line: 3, Col: 5}},
		{[]string{"a:", "    b"}, api.Fault{Code: api.ErrSyntax, Line: 2, Col: 5}},
		{[]string{"a:", "  b:", "  c", "    d"}, api.Fault{Code: api.ErrSyntax, Line: 4, Col: 5}},
		{[]string{"a:", "  b:", "c", "  d"}, api.Fault{Code: api.ErrSyntax, Line: 4, Col: 3}},
		{[]string{"a:", "  b:", "c:", "    d"}, api.Fault{Code: api.ErrSyntax, Line: 4, Col: 5}},
		{[]string{"a", "", "   # x", "  b"}, api.Fault{Code: api.ErrSyntax, Line: 4, Col: 3}},
		{[]string{"a:", "      # x", "    b"}, api.Fault{Code: api.ErrSyntax, Line: 3, Col: 5}},
		{[]string{"a # :", "  b"}, api.Fault{Code: api.ErrSyntax, Line: 2, Col: 3}},
		{[]string{`a ":"`, "  b"}, api.Fault{Code: api.ErrSyntax, Line: 2, Col: 3}},
	} {
		if got, f := parser.Parse(source(c.lines...)); f != c.want || len(got) != 0 {
			t.Errorf("Parse of %q: %v, %v, want %v", c.lines, got, f, c.want)
		}
	}
}

// P10.1: the faults of lines, and which fault comes first.
func TestFirstFaults(t *testing.T) {
	long := strings.Repeat("x", 1001)
	for _, c := range []struct {
		lines []string
		want  api.Fault
	}{
		{[]string{"a", "007"}, api.Fault{Code: api.ErrSyntax, Line: 2, Col: 1}},
		{[]string{"a:", "  b", "", "  b 1000000000000001"}, api.Fault{Code: api.ErrRange, Line: 4, Col: 5}},
		{[]string{"a", " # odd", ` b`}, api.Fault{Code: api.ErrSyntax, Line: 3, Col: 2}},
		{[]string{`a ""`}, api.Fault{Code: api.ErrName, Line: 1, Col: 3}},
		{[]string{"a", "#" + long}, api.Fault{Code: api.ErrTooMany, Line: 2, Col: 1001}},
		{[]string{"a", strings.Repeat(" ", 14) + "b"}, api.Fault{Code: api.ErrTooMany, Line: 2, Col: 15}},
		{[]string{"a", ":"}, api.Fault{Code: api.ErrSyntax, Line: 2, Col: 1}},
		{[]string{"a\r", "b"}, api.Fault{Code: api.ErrSyntax, Line: 1, Col: 2}},
		{[]string{"a", `  b ""`}, api.Fault{Code: api.ErrName, Line: 2, Col: 5}},
		{[]string{"a", "  b", "007"}, api.Fault{Code: api.ErrSyntax, Line: 2, Col: 3}},
		{[]string{"a ?", "  b"}, api.Fault{Code: api.ErrSyntax, Line: 1, Col: 3}},
		{[]string{"  a 9999999999999999"}, api.Fault{Code: api.ErrRange, Line: 1, Col: 5}},
	} {
		if got, f := parser.Parse(source(c.lines...)); f != c.want || len(got) != 0 {
			t.Errorf("Parse of %q: %v, %v, want %v", c.lines, got, f, c.want)
		}
	}
}

// P10.1: a source may have MaxSource bytes; one more is the first fault, whatever its lines are.
func TestLongSources(t *testing.T) {
	full := strings.Repeat("a\n", api.MaxSource/2)
	got, f := parser.Parse(full)
	if f != (api.Fault{}) || len(got) != api.MaxSource/2 || got[len(got)-1].At != api.MaxSource/2 {
		t.Errorf("Parse of %d bytes: %d lines, %v", len(full), len(got), f)
	}
	want := api.Fault{Code: api.ErrTooMany, Line: 1, Col: 1}
	for _, s := range []string{full + "\n", full + "#", "  a 007\n" + full, strings.Repeat("\x00", 1<<20)} {
		if got, f := parser.Parse(s); f != want || len(got) != 0 {
			t.Errorf("Parse of %d bytes: %d lines, %v", len(s), len(got), f)
		}
	}
}

// P10.1: lines lie within each other up to the greatest indentation, and lines may follow at every depth.
func TestDeepTrees(t *testing.T) {
	var lines []string
	for depth := range api.MaxIndent + 1 {
		lines = append(lines, strings.Repeat("  ", depth)+"a:")
	}
	for depth := api.MaxIndent; depth >= 0; depth-- {
		lines = append(lines, strings.Repeat("  ", depth)+"b")
	}
	got := tree(t, lines...)
	if total := parser.Measure(got); total != (parser.Total{Lines: 14, Tokens: 14, Depth: 7}) {
		t.Errorf("Measure: %v", total)
	}
	for depth, list := 0, got; depth <= api.MaxIndent; depth++ {
		if len(list) != 2 || parser.Word(list[0]) != "a" || !list[0].Heading || parser.Word(list[1]) != "b" || list[1].At != 14-depth || len(list[1].Kids) != 0 {
			t.Fatalf("at depth %d: %v", depth, list)
		}
		list = list[0].Kids
	}
	if e := parser.Check(got); e != api.OK {
		t.Errorf("Check: %d", e)
	}
}

// defined returns the tree of some lines as the chapter defines it: by the last line before, and the last line before whose depth is one less.
func defined(lines []string) ([]api.Line, api.Fault) {
	type row struct {
		depth, parent int
		line          api.Line
	}
	var rows []row
	for i, s := range lines {
		scanned, f := lexer.Scan(s)
		if f.Code != api.OK {
			return nil, api.Fault{Code: f.Code, Line: i + 1, Col: f.Col}
		}
		if len(scanned.Tokens) == 0 {
			continue
		}
		most := 0
		if n := len(rows); n > 0 && rows[n-1].line.Heading {
			most = rows[n-1].depth + 1
		} else if n > 0 {
			most = rows[n-1].depth
		}
		if scanned.Indent > most {
			return nil, api.Fault{Code: api.ErrSyntax, Line: i + 1, Col: 2*scanned.Indent + 1}
		}
		r := row{scanned.Indent, -1, api.Line{Tokens: scanned.Tokens, Heading: scanned.Heading, At: i + 1}}
		for j, before := range rows {
			if before.depth == r.depth-1 {
				r.parent = j
			}
		}
		rows = append(rows, r)
	}
	var kids func(parent int) []api.Line
	kids = func(parent int) []api.Line {
		var out []api.Line
		for i, r := range rows {
			if r.parent == parent {
				r.line.Kids = kids(i)
				out = append(out, r.line)
			}
		}
		return out
	}
	return kids(-1), api.Fault{}
}

// P10.1 and P10.5: all short sources of some lines have the tree that is defined, and it is well formed; a source without its last line has its fault or none.
func TestAllShortSources(t *testing.T) {
	usual := []string{"a", "b:", "  a", "  c 1:", "    a", "    b:", "      a:", "", "   # x", " a", ":"}
	good := 0
	var extend func(lines []string, before api.Fault)
	extend = func(lines []string, before api.Fault) {
		want, fault := defined(lines)
		got, f := parser.Parse(strings.Join(lines, "\n"))
		if f != fault || !equal(got, want) {
			t.Fatalf("Parse of %q: %v, %v, want %v, %v", lines, got, f, want, fault)
		}
		if before != (api.Fault{}) && f != before {
			t.Fatalf("Parse of %q: %v, but of a beginning %v", lines, f, before)
		}
		if f == (api.Fault{}) {
			good++
			if e := parser.Check(got); e != api.OK {
				t.Fatalf("Check of %q: %d", lines, e)
			}
		}
		if len(lines) < 5 {
			for _, s := range usual {
				extend(append(slices.Clip(lines), s), f)
			}
		}
	}
	extend(nil, api.Fault{})
	if good < 3000 {
		t.Errorf("only %d sources have a tree", good)
	}
}

// P10.5: lines without tokens, and comments, change only At.
func TestLinesWithoutTokensChangeOnlyAt(t *testing.T) {
	plain := tree(t, "wall south:", "  stone a 100:", "    bed up", "  stone b", "note")
	more := tree(t, "", "wall south : # 1", "   # odd", "  stone  a 100: #", "", "    bed up# x:", "", "  stone b", "     ", "note", "", "# end")
	if !parser.Same(plain, more) || equal(plain, more) {
		t.Errorf("%v, with more lines %v", plain, more)
	}
	if more[0].At != 2 || more[0].Kids[0].At != 4 || more[0].Kids[0].Kids[0].At != 6 || more[0].Kids[1].At != 8 || more[1].At != 10 || more[0].Kids[0].Tokens[1].At != 10 {
		t.Errorf("the numbers of %v", more)
	}
}

// The Rules: no two lists of a result share memory, and a later result is not that of an earlier one.
func TestResultsOfParseAreApart(t *testing.T) {
	const s = "a b:\n  c d\n  c d\na b:\n  c d\n"
	first, _ := parser.Parse(s)
	second, _ := parser.Parse(s)
	first[0].Tokens[0].Text = "x"
	first[0].Kids[0].Tokens = append(first[0].Kids[0].Tokens[:1], word("y"))
	first[0].Kids = append(first[0].Kids, api.Line{})
	if parser.Word(first[1]) != "a" || len(first[1].Kids) != 1 || first[0].Kids[1].Tokens[1].Text != "d" || first[1].Kids[0].Tokens[1].Text != "d" {
		t.Errorf("a change of a part changes another one: %v", first)
	}
	if third, _ := parser.Parse(s); !reflect.DeepEqual(second, third) {
		t.Errorf("a change of a result changes another one: %v", second)
	}
}
