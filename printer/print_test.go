package printer_test

import (
	"slices"
	"strings"
	"testing"

	"gangsaw/api"
	"gangsaw/parser"
	"gangsaw/printer"
)

// Tokens without columns.
func word(s string) api.Token { return api.Token{Kind: api.TokWord, Text: s} }
func num(n int64) api.Token   { return api.Token{Kind: api.TokNumber, N: n} }
func text(s string) api.Token { return api.Token{Kind: api.TokText, Text: s} }
func sign(s string) api.Token { return api.Token{Kind: api.TokSign, Text: s} }

// plain returns a line that is no heading.
func plain(tokens ...api.Token) api.Line { return api.Line{Tokens: tokens} }

// head returns a heading of one word with its kids.
func head(name string, kids ...api.Line) api.Line {
	return api.Line{Tokens: []api.Token{word(name)}, Heading: true, Kids: kids}
}

// source returns the source of some lines.
func source(lines ...string) string {
	if len(lines) == 0 {
		return ""
	}
	return strings.Join(lines, "\n") + "\n"
}

// tree returns the tree of some lines, which must have one.
func tree(t *testing.T, lines ...string) []api.Line {
	t.Helper()
	out, f := parser.Parse(source(lines...))
	if f != (api.Fault{}) {
		t.Fatalf("Parse of %q: %v", lines, f)
	}
	return out
}

// equal compares two trees with all numbers; nil and empty lists are the same.
func equal(a, b []api.Line) bool {
	return slices.EqualFunc(a, b, func(x, y api.Line) bool {
		return x.At == y.At && x.Heading == y.Heading && slices.Equal(x.Tokens, y.Tokens) && equal(x.Kids, y.Kids)
	})
}

// P11.1: spellings of tokens.
func TestToken(t *testing.T) {
	for _, c := range []struct {
		token api.Token
		want  string
	}{
		{word("bed"), "bed"},
		{api.Token{Kind: api.TokWord, Text: "Bed_2", At: 77}, "Bed_2"},
		{num(0), "0"},
		{num(-120), "-120"},
		{num(1000000000000000), "1000000000000000"},
		{text("grey granite"), `"grey granite"`},
		{text("#"), `"#"`},
		{sign(","), ","},
		{sign(":"), ":"},
		{sign("+"), "+"},
	} {
		if got, e := printer.Token(c.token); got != c.want || e != api.OK {
			t.Errorf("Token of %v: %q, %d", c.token, got, e)
		}
	}
}

// P11.1 and P11.3: the first example of the chapter.
func TestExampleOfPrint(t *testing.T) {
	lines := []string{"wall  south :", "  joint ( 5 , 10 )  # mm"}
	want := []string{"wall south:", "  joint (5, 10)"}
	got, e := printer.Print(tree(t, lines...))
	if e != api.OK || got != source(want...) {
		t.Errorf("Print: %q, %d", got, e)
	}
	rows, e := printer.Rows(source(lines...))
	if e != api.OK || !slices.Equal(rows, want) {
		t.Errorf("Rows: %q, %d", rows, e)
	}
}

// P11.1 and P11.3: canonical lines of lines that stand alone.
func TestCanonicalLines(t *testing.T) {
	for line, want := range map[string]string{
		"a":                     "a",
		"  # a":                 "",
		"":                      "",
		"a:":                    "a:",
		"a # b:":                "a",
		"a::":                   "a ::",
		": :":                   "::",
		"::":                    "::",
		")":                     ")",
		",":                     ",",
		"( (":                   "((",
		") )":                   "))",
		"( )":                   "()",
		") (":                   ") (",
		", ,":                   ",,",
		"(,":                    "(,",
		",(":                    ", (",
		",)":                    ",)",
		"),":                    "),",
		"(:":                    "(:",
		"( : a":                 "(: a",
		"a(b)c,d":               "a (b) c, d",
		"f(x,-5)+g( \"a b\" ) ": `f (x, -5) + g ("a b")`,
		"a=b/c<d>e+f:g":         "a = b / c < d > e + f : g",
		`"(" a ")" b ","`:       `"(" a ")" b ","`,
		`("(" ")" ",")`:         `("(" ")" ",")`,
		`a "," , "x , y"`:       `a ",", "x , y"`,
		"1  -2   3#4":           "1 -2 3",
		"- 5":                   "",
		"wall   south   :  # x": "wall south:",
	} {
		lines, f := parser.Parse(line)
		if f.Code != api.OK {
			continue
		}
		got, e := printer.Print(lines)
		if want != "" {
			want += "\n"
		}
		if got != want || e != api.OK {
			t.Errorf("Print of %q: %q, %d, want %q", line, got, e, want)
		}
	}
}

// P11.1 and P11.3: lines stand in the order of a walk, each one two blanks behind its heading.
func TestCanonicalTrees(t *testing.T) {
	lines := []string{"", "a :", "  b  1", "  # x", "  c:", "    d:", "      e:", "        f:", "          g:", "            h:", "            i", "", "    j:", "  k ( 2 )", "l", "m:", "  n"}
	want := []string{"a:", "  b 1", "  c:", "    d:", "      e:", "        f:", "          g:", "            h:", "            i", "    j:", "  k (2)", "l", "m:", "  n"}
	got, e := printer.Print(tree(t, lines...))
	if e != api.OK || got != source(want...) {
		t.Errorf("Print: %q, %d", got, e)
	}
	rows, e := printer.Rows(strings.Join(lines, "\n"))
	if e != api.OK || !slices.Equal(rows, want) {
		t.Errorf("Rows: %q, %d", rows, e)
	}
}

// P11.1 and P11.3: a tree without lines has an empty source.
func TestPrintOfNothing(t *testing.T) {
	for _, lines := range [][]api.Line{nil, {}} {
		if got, e := printer.Print(lines); got != "" || e != api.OK {
			t.Errorf("Print of no lines: %q, %d", got, e)
		}
		if e := printer.Check(lines); e != api.OK {
			t.Errorf("Check of no lines: %d", e)
		}
		if got, e := printer.Number(lines); len(got) != 0 || e != api.OK {
			t.Errorf("Number of no lines: %v, %d", got, e)
		}
	}
	for _, s := range []string{"", "\n\n", "# a\n   # b"} {
		if got, e := printer.Rows(s); len(got) != 0 || e != api.OK {
			t.Errorf("Rows of %q: %q, %d", s, got, e)
		}
	}
}

// defined returns the canonical line of tokens as the chapter defines it: first a mark between all neighbours, then none at the signs, then blanks.
func defined(tokens []api.Token, heading bool, depth int) string {
	var spellings []string
	for _, t := range tokens {
		s, _ := printer.Token(t)
		spellings = append(spellings, s)
	}
	s := strings.Join(spellings, "\n")
	s = strings.ReplaceAll(s, "\n)", ")")
	s = strings.ReplaceAll(s, "\n,", ",")
	s = strings.ReplaceAll(s, "(\n", "(")
	s = strings.Repeat(" ", 2*depth) + strings.ReplaceAll(s, "\n", " ")
	if heading {
		s += ":"
	}
	return s
}

// P11.1, P11.2 and P11.5: all short lines have the canonical line that is defined, and it is read as the same line.
func TestAllShortLines(t *testing.T) {
	letters := []api.Token{word("a"), num(5), num(-5), text("("), text(")"), text(","), sign("("), sign(")"), sign(","), sign("="), sign(":"), sign("<"), sign(">"), sign("+"), sign("/")}
	var extend func(tokens []api.Token)
	extend = func(tokens []api.Token) {
		for _, heading := range []bool{false, true} {
			if len(tokens) == 0 || !heading && tokens[len(tokens)-1] == sign(":") {
				continue
			}
			l := api.Line{Tokens: tokens, Heading: heading}
			want := defined(tokens, heading, 1)
			got, e := printer.Print([]api.Line{head("x", l)})
			if got != "x:\n"+want+"\n" || e != api.OK {
				t.Fatalf("Print of %v: %q, %d, want %q", l, got, e, want)
			}
			if again, f := parser.Parse(got); f.Code != api.OK || !printer.Same(again, []api.Line{head("x", l)}) {
				t.Fatalf("Parse of %q: %v, %v", got, again, f)
			}
		}
		if len(tokens) < 4 {
			for _, next := range letters {
				extend(append(slices.Clip(tokens), next))
			}
		}
	}
	extend(nil)
}

// P11.2: numbers and columns are those of the canonical source, whatever they were.
func TestNumber(t *testing.T) {
	at := func(col int, token api.Token) api.Token {
		token.At = col
		return token
	}
	want := []api.Line{
		{Tokens: []api.Token{at(1, word("wall")), at(6, word("south"))}, Heading: true, At: 1, Kids: []api.Line{
			{Tokens: []api.Token{at(3, word("joint")), at(9, sign("(")), at(10, num(5)), at(11, sign(",")), at(13, num(10)), at(15, sign(")"))}, At: 2},
			{Tokens: []api.Token{at(3, word("stone")), at(9, sign("="))}, Heading: true, At: 3, Kids: []api.Line{
				{Tokens: []api.Token{at(5, text("grey 1")), at(14, num(-7)), at(17, text("x"))}, At: 4},
			}},
		}},
		{Tokens: []api.Token{at(1, sign(",")), at(3, word("note"))}, At: 5},
	}
	scanned := tree(t, "", "wall  south :", "", "  joint ( 5 , 10 )  # mm", "  stone=:", `    "grey 1"-7"x"`, "# x", "  ", " #", ",note")
	for name, lines := range map[string][]api.Line{"scanned": scanned, "numbered": want, "without numbers": changed(want, func(int) int { return 0 }), "with odd numbers": changed(want, func(n int) int { return -1 << 60 * n })} {
		got, e := printer.Number(lines)
		if e != api.OK || !equal(got, want) {
			t.Errorf("Number of lines %s: %v, %d", name, got, e)
		}
	}
}

// changed returns a copy of a tree with changed numbers and columns.
func changed(lines []api.Line, change func(int) int) []api.Line {
	out := slices.Clone(lines)
	for i, l := range lines {
		out[i].At = change(l.At)
		out[i].Tokens = slices.Clone(l.Tokens)
		for j, t := range l.Tokens {
			out[i].Tokens[j].At = change(t.At)
		}
		out[i].Kids = changed(l.Kids, change)
	}
	return out
}

// P11.2: two trees are the same if nothing but numbers and columns differs.
func TestSame(t *testing.T) {
	trees := [][]api.Line{
		nil,
		{plain(word("a"))},
		{plain(word("a")), plain(word("a"))},
		{head("a")},
		{head("a", plain(word("a")))},
		{head("a", plain(word("b")))},
		{plain(text("a"))},
		{plain(num(1))},
		{plain(num(2))},
		{plain(sign("("), word("a"))},
		{plain(word("a"), sign("("))},
		{plain()},
		{{Tokens: []api.Token{{}}}},
	}
	for i, a := range trees {
		for j, b := range trees {
			if got := printer.Same(a, b); got != (i == j) {
				t.Errorf("Same of %v and %v: %v", a, b, got)
			}
		}
		if !printer.Same(a, changed(a, func(n int) int { return n + 7 })) {
			t.Errorf("%v is not the same with other numbers", a)
		}
	}
	if !printer.Same(nil, []api.Line{}) || !printer.Same([]api.Line{head("a")}, []api.Line{head("a", []api.Line{}...)}) {
		t.Error("nil and empty lists are not the same")
	}
}

// The Rules: what Number returns shares no memory with its argument, nor its parts with each other.
func TestResultsOfNumberAreApart(t *testing.T) {
	kids := []api.Line{plain(word("a"), num(1))}
	lines := []api.Line{head("a", kids...), head("a", kids...), {Tokens: kids[0].Tokens}}
	before := changed(lines, func(n int) int { return n })
	got, _ := printer.Number(lines)
	want, _ := printer.Number(lines)
	got[0].Tokens[0].Text = "x"
	got[0].Kids[0].Tokens[0].Text = "x"
	got[0].Kids[0].At = 9
	got[0].Kids = append(got[0].Kids, plain(word("y")))
	if !equal(lines, before) {
		t.Errorf("the argument changes: %v", lines)
	}
	if !equal(got[1:], want[1:]) {
		t.Errorf("another part of the result changes: %v", got)
	}
}
