package parser_test

import (
	"math"
	"slices"
	"testing"

	"gangsaw/api"
	"gangsaw/parser"
)

// P10.3: Word is the text of the first token, if that is a word.
func TestWord(t *testing.T) {
	for _, c := range []struct {
		line api.Line
		want string
	}{
		{plain(word("stone"), word("a")), "stone"},
		{head("wall", plain(word("stone"))), "wall"},
		{plain(word("not a word")), "not a word"},
		{plain(), ""},
		{plain(num(5), word("a")), ""},
		{plain(text("a"), word("a")), ""},
		{plain(sign("("), word("a")), ""},
		{plain(api.Token{Text: "a"}), ""},
		{api.Line{Kids: []api.Line{plain(word("a"))}}, ""},
	} {
		if got := parser.Word(c.line); got != c.want {
			t.Errorf("Word of %v: %q, want %q", c.line, got, c.want)
		}
	}
}

// P10.3 and P10.5: Pick returns the lines of the list with their kids, in order, and looks at no kids.
func TestPick(t *testing.T) {
	lines := tree(t, "stone a:", "  stone b:", "    stone c", "note 1", "stone d", "5 stone", "Stone e", "stones f", "wall:", "  stone g", "note")
	for _, c := range []struct {
		word string
		want []api.Line
	}{
		{"stone", []api.Line{lines[0], lines[2]}},
		{"note", []api.Line{lines[1], lines[7]}},
		{"wall", lines[6:7]},
		{"Stone", lines[4:5]},
		{"stones", lines[5:6]},
		{"", lines[3:4]},
		{"5", nil},
		{"st", nil},
		{"stone a", nil},
	} {
		if got := parser.Pick(lines, c.word); !equal(got, c.want) {
			t.Errorf("Pick of %q: %v, want %v", c.word, got, c.want)
		}
	}
	if got := parser.Pick(nil, "a"); len(got) != 0 {
		t.Errorf("Pick of no lines: %v", got)
	}
}

// The Rules: what Pick returns shares no memory with its argument, at no depth, nor with itself.
func TestResultsOfPickAreApart(t *testing.T) {
	kids := []api.Line{head("k", plain(word("x")))}
	lines := []api.Line{head("a", kids...), head("a", kids...)}
	before := moved(lines, 0)
	got := parser.Pick(lines, "a")
	got[0].Kids[0].Kids[0].Tokens[0].Text = "y"
	got[0].Kids[0].Tokens[0].Text = "y"
	got[0].Kids[0].Heading = false
	got[0].Tokens[0].Text = "y"
	got[0].At = 5
	if !equal(lines, before) {
		t.Errorf("the argument of Pick changes: %v", lines)
	}
	if !equal(got[1:], before[1:]) {
		t.Errorf("another part of the result of Pick changes: %v", got[1])
	}
}

// P10.3 and P10.5: Only finds the first line that begins with none of the words, and looks at no kids.
func TestOnly(t *testing.T) {
	lines := tree(t, "", "stone a:", "  other b", "note", "stone", "", "  # x", "wall 5", "(wall)")
	fault := func(i int) api.Fault {
		return api.Fault{Code: api.ErrSyntax, Line: lines[i].At, Col: lines[i].Tokens[0].At}
	}
	for _, c := range []struct {
		lines []api.Line
		words []string
		want  api.Fault
	}{
		{nil, nil, api.Fault{}},
		{nil, []string{"a"}, api.Fault{}},
		{lines[:3], []string{"note", "stone"}, api.Fault{}},
		{lines[:4], []string{"wall", "x", "note", "stone", "stone"}, api.Fault{}},
		{lines, []string{"stone", "note"}, fault(3)},
		{lines, []string{"stone", "wall"}, fault(1)},
		{lines, []string{"note", "wall"}, fault(0)},
		{lines, []string{"stone", "note", "wall"}, fault(4)},
		{lines, []string{"stone", "note", "wall", "(", "", "other"}, fault(4)},
		{lines[2:], []string{"Stone", "ston", "stones", "stone a"}, fault(2)},
		{lines[1:], nil, fault(1)},
		{lines[1:], []string{}, fault(1)},
		{lines[0].Kids, []string{"other"}, api.Fault{}},
		{lines[0].Kids, []string{"stone"}, api.Fault{Code: api.ErrSyntax, Line: 3, Col: 3}},
		{[]api.Line{{At: 7}}, []string{"a", ""}, api.Fault{Code: api.ErrSyntax, Line: 7, Col: 1}},
		{[]api.Line{{At: 8, Tokens: []api.Token{{Kind: api.TokNumber, N: 5, At: 4}}}}, []string{"a", "", "5"}, api.Fault{Code: api.ErrSyntax, Line: 8, Col: 4}},
	} {
		if got := parser.Only(c.lines, c.words); got != c.want {
			t.Errorf("Only of %v with %q: %v, want %v", c.lines, c.words, got, c.want)
		}
	}
}

// P10.4: the fault of a code at a token, or at the last one, or at column 1.
func TestBad(t *testing.T) {
	line := tree(t, "", "bed = upper, -120")[0]
	for token, col := range map[int]int{0: 1, 1: 5, 2: 7, 3: 12, 4: 14, 5: 14, 6: 14, math.MaxInt: 14, -1: 14, math.MinInt: 14} {
		want := api.Fault{Code: api.ErrRange, Line: 2, Col: col}
		if got := parser.Bad(api.ErrRange, line, token); got != want {
			t.Errorf("Bad at %d: %v, want %v", token, got, want)
		}
	}
	for _, token := range []int{-1, 0, 1, math.MaxInt, math.MinInt} {
		want := api.Fault{Code: api.ErrName, Line: -3, Col: 1}
		if got := parser.Bad(api.ErrName, api.Line{At: -3, Heading: true, Kids: []api.Line{line}}, token); got != want {
			t.Errorf("Bad at %d of no tokens: %v, want %v", token, got, want)
		}
	}
	if got := parser.Bad(api.Errno(99), plain(num(1)), 0); got != (api.Fault{Code: 99}) {
		t.Errorf("Bad of a line without numbers: %v", got)
	}
}

// P1: arguments are not modified.
func TestArgumentsAreNotModified(t *testing.T) {
	for _, lines := range append(different(), []api.Line{crowd(70, true), nested(9)}) {
		before := moved(lines, 0)
		words := []string{"a", "b", "WORD*"}
		parser.Check(lines)
		parser.Measure(lines)
		parser.Same(lines, before)
		parser.Pick(lines, "a")
		parser.Only(lines, words)
		for _, l := range lines {
			parser.Shape(l, words)
			parser.Word(l)
			parser.Bad(api.ErrName, l, 0)
		}
		if !equal(lines, before) || !slices.Equal(words, []string{"a", "b", "WORD*"}) {
			t.Errorf("a tree of %d lines is modified", len(lines))
		}
	}
}
