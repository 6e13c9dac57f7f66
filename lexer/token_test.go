package lexer_test

import (
	"math"
	"strings"
	"testing"

	"gangsaw/api"
	"gangsaw/lexer"
)

// P9.3: tokens with their spellings, whatever their columns are.
func TestSpell(t *testing.T) {
	long := strings.Repeat("a", api.MaxLabel)
	for want, token := range map[string]api.Token{
		"a":                 word("a", 1),
		"Z_09":              word("Z_09", 0),
		"WORD":              word("WORD", -5),
		long:                word(long, math.MaxInt),
		"0":                 num(0, 0),
		"-1":                num(-1, math.MinInt),
		"120":               num(120, 3),
		"1000000000000000":  num(lexer.MaxNumber, 0),
		"-1000000000000000": num(-lexer.MaxNumber, 0),
		`"a"`:               text("a", 7),
		`"12"`:              text("12", 0),
		`"# a  b:"`:         text("# a  b:", 0),
		`"` + long + `"`:    text(long, 0),
		"(":                 sign("(", 1),
		")":                 sign(")", 0),
		",":                 sign(",", 0),
		"=":                 sign("=", 0),
		":":                 sign(":", 0),
		"<":                 sign("<", 0),
		">":                 sign(">", 0),
		"+":                 sign("+", 0),
		"/":                 sign("/", 0),
	} {
		if !lexer.Valid(token) {
			t.Errorf("%v is not valid", token)
		}
		if got, e := lexer.Spell(token); got != want || e != api.OK {
			t.Errorf("Spell of %v: %q, %d, want %q", token, got, e, want)
		}
	}
}

// P1 and P9.3: tokens that no line has are refused.
func TestTokensThatAreNotValid(t *testing.T) {
	for _, token := range []api.Token{
		{}, {At: 1}, {Kind: 5, Text: "a"}, {Kind: -1, Text: "a"}, {Kind: math.MaxInt}, {Kind: math.MinInt, N: 1}, {Text: "a"}, {N: 1},
		word("", 1), word("1a", 1), word("_a", 1), word("a b", 1), word(" a", 1), word("a ", 1), word("a-b", 1), word("a#", 1), word("é", 1), word("(", 1), word("a:", 1), word(`"a"`, 1), word("12", 1), word("a\n", 1),
		word(strings.Repeat("a", 41), 1), {Kind: api.TokWord, Text: "a", N: 1}, {Kind: api.TokWord, N: 1},
		num(lexer.MaxNumber+1, 1), num(-lexer.MaxNumber-1, 1), num(math.MaxInt64, 1), num(math.MinInt64, 1), {Kind: api.TokNumber, N: 1, Text: "1"}, {Kind: api.TokNumber, Text: "0"},
		text("", 1), text(" ", 1), text(" a", 1), text("a ", 1), text(`a"b`, 1), text(`"`, 1), text(`"a"`, 1), text("a\tb", 1), text("\x7f", 1), text("é", 1), text(strings.Repeat("a", 41), 1), {Kind: api.TokText, Text: "a", N: -1},
		sign("", 1), sign("a", 1), sign("1", 1), sign("-", 1), sign("#", 1), sign(`"`, 1), sign(" ", 1), sign("((", 1), sign("()", 1), sign("( ", 1), sign("*", 1), {Kind: api.TokSign, Text: "(", N: 1},
	} {
		if lexer.Valid(token) {
			t.Errorf("%v is valid", token)
		}
		if s, e := lexer.Spell(token); s != "" || e != api.ErrSyntax {
			t.Errorf("Spell of %v: %q, %d", token, s, e)
		}
	}
}

// P9.3: of all small tokens those are valid that some short line has, and their spellings stand there.
func TestValidTokensAreThoseOfLines(t *testing.T) {
	const bytes = " aZ09_-\"#:(\t\x80"
	known := map[api.Token]bool{}
	everyString(bytes, 4, func(s string) {
		got, _ := lexer.Scan(s)
		for _, token := range got.Tokens {
			if spelling, e := lexer.Spell(token); e != api.OK || !strings.HasPrefix(s[token.At-1:], spelling) {
				t.Errorf("Spell of %v in %q: %q, %d", token, s, spelling, e)
			}
			token.At = 0
			known[token] = true
		}
	})
	everyString(bytes, 2, func(s string) {
		for kind := -1; kind <= 5; kind++ {
			for _, n := range []int64{-999, -90, -9, 0, 9, 9009} {
				token := api.Token{Kind: kind, Text: s, N: n}
				if got := lexer.Valid(token); got != known[token] {
					t.Errorf("Valid of %v: %v", token, got)
				}
			}
		}
	})
	if len(known) < 200 {
		t.Errorf("only %d tokens are known", len(known))
	}
}

// P9.2: names and labels of all lengths, and with every byte at every place.
func TestNamesAndLabels(t *testing.T) {
	check := func(s string) {
		if got := lexer.Name(s); got != nameForm.MatchString(s) {
			t.Errorf("Name of %q: %v", s, got)
		}
		if got := lexer.Label(s); got != labelForm.MatchString(s) {
			t.Errorf("Label of %q: %v", s, got)
		}
	}
	for n := range 60 {
		check(strings.Repeat("a", n))
		check(strings.Repeat("A", n))
		check("a" + strings.Repeat("0", n))
		check("a" + strings.Repeat(" ", n) + "a")
	}
	for b := range 256 {
		c := string([]byte{byte(b)})
		for _, s := range []string{c, c + "a", "a" + c, "a" + c + "a", c + c} {
			check(s)
		}
	}
	check(strings.Repeat("a", 1<<20))
}

// P9.2: some names and labels, and what is none.
func TestExamplesOfNamesAndLabels(t *testing.T) {
	for s, want := range map[string][2]bool{
		"":                                  {false, false},
		"a":                                 {true, true},
		"bed_2":                             {true, true},
		"a__":                               {true, true},
		"Bed":                               {false, true},
		"_a":                                {false, true},
		"2a":                                {false, true},
		"a-b":                               {false, true},
		"a b":                               {false, true},
		" a":                                {false, false},
		"a ":                                {false, false},
		" ":                                 {false, false},
		`a"b`:                               {false, false},
		"a\n":                               {false, false},
		"ä":                                 {false, false},
		strings.Repeat("a", 24):             {true, true},
		strings.Repeat("a", 25):             {false, true},
		strings.Repeat("#", 40):             {false, true},
		strings.Repeat("~", 41):             {false, false},
		"a" + strings.Repeat(" ", 50):       {false, false},
		"x" + strings.Repeat("_9", 11):      {true, true},
		"x" + strings.Repeat("_9", 12):      {false, true},
		"!" + strings.Repeat(" ", 38) + ".": {false, true},
	} {
		if got := [2]bool{lexer.Name(s), lexer.Label(s)}; got != want {
			t.Errorf("Name and Label of %q: %v, want %v", s, got, want)
		}
	}
}
