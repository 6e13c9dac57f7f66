package parser_test

import (
	"slices"
	"strings"
	"testing"

	"gangsaw/api"
	"gangsaw/parser"
)

// shapeCase is a pattern, its strings with blanks between them, with the fault of a line.
type shapeCase struct {
	line, pattern string
	code          api.Errno
	col           int
}

func checkShapes(t *testing.T, cases []shapeCase) {
	t.Helper()
	for _, c := range cases {
		want := api.Fault{}
		if c.code != api.OK {
			want = api.Fault{Code: c.code, Line: 2, Col: c.col}
		}
		l := tree(t, "# the line 1", c.line)[0]
		if got := parser.Shape(l, strings.Fields(c.pattern)); got != want {
			t.Errorf("Shape of %q with %q: %v, want %v", c.line, c.pattern, got, want)
		}
	}
}

// P10.4: the third example of the chapter.
func TestExampleOfShape(t *testing.T) {
	checkShapes(t, []shapeCase{
		{"stone a 100", "stone NAME NUMBER", api.OK, 0},
		{"stone a 100", "stone NAME", api.ErrSyntax, 9},
		{"stone a 100", "stone NAME NUMBER NUMBER", api.ErrSyntax, 9},
		{"stone a 100", "stone NAME NUMBER+", api.OK, 0},
		{"stone A", "stone NAME", api.ErrName, 7},
		{"stone A", "stone NAME NUMBER", api.ErrName, 7},
	})
}

// P10.4: each string of a pattern stands for its tokens only.
func TestForms(t *testing.T) {
	for form, want := range map[string]string{
		"WORD": "yyyynnnnn", "NAME": "yyNNnnnnn", "NUMBER": "nnnnyynnn", "TEXT": "nnnnnnynn", "ANY": "yyyyyyyyy",
		"bed": "ynnnnnnnn", "a_1": "nynnnnnnn", "Bed": "nnynnnnnn", "(": "nnnnnnnyn", "+": "nnnnnnnny", ")": "nnnnnnnnn", "5": "nnnnnnnnn", "*": "nnnnnnnnn", "be": "nnnnnnnnn", "beds": "nnnnnnnnn", "BED": "nnnnnnnnn", "word": "nnnnnnnnn", `"bed"`: "nnnnnnnnn",
	} {
		for i, token := range []string{"bed", "a_1", "Bed", "abcdefghijklmnopqrstuvwxyz", "5", "-120", `"bed"`, "(", "+"} {
			code := map[byte]api.Errno{'y': api.OK, 'n': api.ErrSyntax, 'N': api.ErrName}[want[i]]
			checkShapes(t, []shapeCase{
				{"x " + token, "x " + form, code, 3},
				{token + " x", form + " x", code, 1},
				{"x " + token + " x", "ANY " + form + " ANY", code, 3},
			})
		}
	}
}

// P10.4: the words of the patterns are no forms in small letters, and stand for no words of their own.
func TestFormsAreMeantInCapitalLetters(t *testing.T) {
	checkShapes(t, []shapeCase{
		{"name", "name", api.OK, 0},
		{"number any", "number any", api.OK, 0},
		{"a", "name", api.ErrSyntax, 1},
		{"5", "number", api.ErrSyntax, 1},
		{"NUMBER", "NUMBER", api.ErrSyntax, 1},
		{"NAME", "NAME", api.ErrName, 1},
		{"WORD", "WORD", api.OK, 0},
	})
}

// P10.4: tokens that are lacking or superfluous.
func TestNumbersOfTokens(t *testing.T) {
	checkShapes(t, []shapeCase{
		{"a", "a", api.OK, 0},
		{"a b c", "a b c", api.OK, 0},
		{"a", "", api.ErrSyntax, 1},
		{"a b", "a", api.ErrSyntax, 3},
		{"a b c d", "a b", api.ErrSyntax, 5},
		{"a", "a b", api.ErrSyntax, 1},
		{"a b", "a b c d", api.ErrSyntax, 3},
		{"a b:", "a b", api.OK, 0},
		{"a b :", "a b :", api.ErrSyntax, 3},
		{"a : b", "a : b", api.OK, 0},
	})
	for name, pattern := range map[string][]string{"no pattern": nil, "an empty pattern": {}, "ANY*": {"ANY*"}, "a*": {"a*"}} {
		if got := parser.Shape(api.Line{At: 3}, pattern); got != (api.Fault{}) {
			t.Errorf("Shape of no tokens with %s: %v", name, got)
		}
	}
	for name, pattern := range map[string][]string{"ANY": {"ANY"}, "ANY+": {"ANY+"}, "an empty string": {""}, "*": {"*"}, "two strings": {"a", "b*"}} {
		if got := parser.Shape(api.Line{At: 3}, pattern); got != (api.Fault{Code: api.ErrSyntax, Line: 3, Col: 1}) {
			t.Errorf("Shape of no tokens with %s: %v", name, got)
		}
	}
}

// P10.4: of a wrong form and a word that is no name, the first one counts.
func TestFirstFaultOfShape(t *testing.T) {
	checkShapes(t, []shapeCase{
		{"A 5", "NAME WORD", api.ErrName, 1},
		{"5 A", "WORD NAME", api.ErrSyntax, 1},
		{"a A 5", "NAME NAME NAME", api.ErrName, 3},
		{"a 5 A", "NAME NAME NAME", api.ErrSyntax, 3},
		{"A B", "NAME", api.ErrName, 1},
		{"a B", "NAME", api.ErrSyntax, 3},
		{"A", "NAME NAME", api.ErrName, 1},
		{"A B", "NAME NAME", api.ErrName, 1},
		{"a A 5", "NAME*", api.ErrName, 3},
		{"a 5 A", "NAME*", api.ErrSyntax, 3},
		{"a b C d", "NAME+", api.ErrName, 5},
	})
}

// P10.4: the last string may have a mark, and stands for any number of tokens, or for one or more.
func TestMarks(t *testing.T) {
	checkShapes(t, []shapeCase{
		{"a", "a NUMBER*", api.OK, 0},
		{"a 1", "a NUMBER*", api.OK, 0},
		{"a 1 2 3", "a NUMBER*", api.OK, 0},
		{"a 1 b 3", "a NUMBER*", api.ErrSyntax, 5},
		{"a b", "a NUMBER*", api.ErrSyntax, 3},
		{"a", "a NUMBER+", api.ErrSyntax, 1},
		{"a 1", "a NUMBER+", api.OK, 0},
		{"a 1 2 3", "a NUMBER+", api.OK, 0},
		{"a 1 2 b", "a NUMBER+", api.ErrSyntax, 7},
		{"a b", "a b NUMBER+", api.ErrSyntax, 3},
		{"a", "a b NUMBER+", api.ErrSyntax, 1},
		{"a", "a b NUMBER*", api.ErrSyntax, 1},
		{"a b", "a b NUMBER*", api.OK, 0},
		{`1 "a" ( b`, "ANY+", api.OK, 0},
		{"b b b", "b+", api.OK, 0},
		{"b b c", "b*", api.ErrSyntax, 5},
		{"1 2", "NUMBER+", api.OK, 0},
		{"east west", "WORD+", api.OK, 0},
		{`"a" "b"`, "TEXT*", api.OK, 0},
	})
}

// P10.4: a mark alone is a sign, and marks in front of the last string are part of it.
func TestMarksThatAreNone(t *testing.T) {
	checkShapes(t, []shapeCase{
		{"+", "+", api.OK, 0},
		{"+ +", "+", api.ErrSyntax, 3},
		{"a", "a +", api.ErrSyntax, 1},
		{"+ +", "++", api.OK, 0},
		{"a", "a ++", api.ErrSyntax, 1},
		{"a + + +", "a +*", api.OK, 0},
		{"a", "a +*", api.OK, 0},
		{"a", "a *", api.ErrSyntax, 1},
		{"a b", "a *", api.ErrSyntax, 3},
		{"1 2 a", "NUMBER* a", api.ErrSyntax, 1},
		{"1 a", "NUMBER+ a", api.ErrSyntax, 1},
		{"a", "*+", api.ErrSyntax, 1},
		{"a", "NUMBER**", api.ErrSyntax, 1},
		{"1", "NUMBER+*", api.ErrSyntax, 1},
		{"a", "a **", api.OK, 0},
	})
	// Only tokens that no line has are spelled like these.
	odd := api.Line{Tokens: []api.Token{word("NUMBER*"), sign("*"), word(""), sign("*"), sign("*")}}
	if got := parser.Shape(odd, []string{"NUMBER*", "*", "", "**"}); got != (api.Fault{}) {
		t.Errorf("Shape of odd tokens: %v", got)
	}
	if got := parser.Shape(odd, []string{"NUMBER*", "*", "", "*+"}); got != (api.Fault{}) {
		t.Errorf("Shape of odd tokens: %v", got)
	}
	if got := parser.Shape(odd, []string{"ANY+"}); got != (api.Fault{}) {
		t.Errorf("Shape of odd tokens: %v", got)
	}
	for _, odd := range []api.Token{{Text: "a"}, {Kind: 5, Text: "a"}, text("a"), {Kind: api.TokNumber, Text: "a"}} {
		if got := parser.Shape(plain(odd), []string{"a"}); got.Code != api.ErrSyntax {
			t.Errorf("Shape of %v: %v", odd, got)
		}
	}
}

// letters are tokens: a name, another word, a number, a text, and two signs.
func letters() map[byte]api.Token {
	return map[byte]api.Token{'n': word("n"), 'W': word("W"), '5': num(5), 'T': text("n"), '(': sign("("), '+': sign("+")}
}

// stands returns for which letters a string of a pattern stands.
func stands() map[string]string {
	return map[string]string{"WORD": "nW", "NAME": "n", "NUMBER": "5", "TEXT": "T", "ANY": "nW5T(+", "n": "n", "W": "W", "(": "(", "+": "+", "*": "", "NUMBER*": ""}
}

// definedFault consumes letters from the left and returns the first fault with its index.
func definedFault(line string, pattern []string, at int) (api.Errno, int) {
	if len(pattern) == 0 && line == "" {
		return api.OK, 0
	}
	if len(pattern) == 0 {
		return api.ErrSyntax, at
	}
	form, rest := pattern[0], pattern[1:]
	if last := len(form) - 1; len(rest) == 0 && last > 0 && form[last] == '*' {
		form, rest = form[:last], pattern
		if line == "" {
			return api.OK, 0
		}
	} else if len(rest) == 0 && last > 0 && form[last] == '+' {
		form, rest = form[:last], []string{form[:last] + "*"}
	}
	switch {
	case line == "":
		return api.ErrSyntax, at
	case form == "NAME" && line[0] == 'W':
		return api.ErrName, at
	case !strings.Contains(stands()[form], line[:1]):
		return api.ErrSyntax, at
	}
	return definedFault(line[1:], rest, at+1)
}

// P10.4: all short lines have the fault that is defined for all short patterns.
func TestAllShortShapes(t *testing.T) {
	var patterns [][]string
	for form := range stands() {
		for _, mark := range []string{"", "*", "+"} {
			patterns = append(patterns, []string{form + mark})
			for first := range stands() {
				patterns = append(patterns, []string{first, form + mark})
			}
		}
	}
	patterns = append(patterns, nil, []string{"WORD", "NAME", "ANY+"}, []string{"n", "(", "NAME*"}, []string{"NUMBER+", "NUMBER+", "NUMBER+"})
	codes := map[api.Errno]int{}
	var extend func(line string, l api.Line)
	extend = func(line string, l api.Line) {
		for _, pattern := range patterns {
			code, i := definedFault(line, pattern, 0)
			want := api.Fault{}
			if code != api.OK {
				want = parser.Bad(code, l, i)
			}
			if got := parser.Shape(l, pattern); got != want {
				t.Fatalf("Shape of %q with %q: %v, want %v", line, pattern, got, want)
			}
			codes[code]++
		}
		if len(line) == 3 {
			return
		}
		for letter, token := range letters() {
			token.At = 10*len(line) + 5
			extend(line+string(letter), api.Line{At: 3, Tokens: append(slices.Clip(l.Tokens), token)})
		}
	}
	extend("", api.Line{At: 3})
	if codes[api.OK] < 500 || codes[api.ErrName] < 500 || codes[api.ErrSyntax] < 500 {
		t.Errorf("too few of some code: %v", codes)
	}
}
