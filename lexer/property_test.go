package lexer_test

import (
	"math/rand"
	"strconv"
	"strings"
	"testing"

	"gangsaw/api"
	"gangsaw/lexer"
)

// randomBytes returns a string of from 1 to so many of some bytes.
func randomBytes(r *rand.Rand, bytes string, most int) string {
	out := make([]byte, 1+r.Intn(most))
	for i := range out {
		out[i] = bytes[r.Intn(len(bytes))]
	}
	return string(out)
}

// randomToken returns a valid token.
func randomToken(r *rand.Rand) api.Token {
	switch r.Intn(4) {
	case 0:
		return word("w"+randomBytes(r, "abzABZ059_", 39), r.Intn(9))
	case 1:
		return num((r.Int63n(lexer.MaxNumber+1)>>r.Intn(50))*int64(1-2*r.Intn(2)), r.Intn(9))
	case 2:
		return text(`!`+strings.TrimRight(randomBytes(r, ` #:a0(~'`, 39), " "), r.Intn(9))
	}
	return sign(randomBytes(r, "(),=:<>+/", 1), r.Intn(9))
}

// scannedAs compares the tokens of a line with others, apart from columns, which must increase.
func scannedAs(s lexer.Scanned, tokens []api.Token) bool {
	last := 0
	if len(s.Tokens) != len(tokens) {
		return false
	}
	for i, token := range s.Tokens {
		if token.At <= last {
			return false
		}
		last = token.At
		token.At = tokens[i].At
		if token != tokens[i] {
			return false
		}
	}
	return true
}

// P9.4: spellings of valid tokens with a blank between them are scanned as these tokens; more blanks and a comment change only columns and the comment.
func TestSpellingsAreScannedAsTheirTokens(t *testing.T) {
	r := rand.New(rand.NewSource(94))
	headings, lines := 0, 0
	for range 20000 {
		tokens := make([]api.Token, 1+r.Intn(20))
		tight, wide := "", strings.Repeat("  ", r.Intn(7))
		indent := len(wide) / 2
		for i := range tokens {
			tokens[i] = randomToken(r)
			s, e := lexer.Spell(tokens[i])
			if e != api.OK {
				t.Fatalf("Spell of %v: %d", tokens[i], e)
			}
			tight += s + " "
			wide += s + strings.Repeat(" ", 1+r.Intn(3))
		}
		comment := randomBytes(r, " a\"#:\t\xff7", 20)
		tight, wide = strings.TrimRight(tight, " "), wide+"#"+comment
		last := len(tokens) - 1
		isHeading := tokens[last].Kind == api.TokSign && tokens[last].Text == ":"
		if isHeading {
			tokens = tokens[:last]
		}
		if len(wide) > lexer.MaxLine || len(tokens) == 0 {
			continue
		}
		lines++
		a, f := lexer.Scan(tight)
		b, g := lexer.Scan(wide)
		if f != (api.Fault{}) || a.Indent != 0 || a.Comment != "" || a.Heading != isHeading || !scannedAs(a, tokens) {
			t.Fatalf("Scan of %q: %v, %v", tight, a, f)
		}
		if g != (api.Fault{}) || b.Indent != indent || b.Comment != comment || b.Heading != isHeading || !scannedAs(b, tokens) {
			t.Fatalf("Scan of %q: %v, %v", wide, b, g)
		}
		if isHeading {
			headings++
		}
	}
	if lines < 10000 || headings < 100 {
		t.Errorf("only %d lines, %d headings", lines, headings)
	}
}

// P9.3 and P9.4: a number and a text with the same digits stay apart.
func TestNumbersOfAllSizes(t *testing.T) {
	for n := int64(1); n <= lexer.MaxNumber; n *= 10 {
		for _, m := range []int64{n, -n, n - 1, 1 - n} {
			s := strconv.FormatInt(m, 10)
			got, f := lexer.Scan(s + ` "` + s + `"`)
			if f != (api.Fault{}) || !scannedAs(got, []api.Token{num(m, 0), text(s, 0)}) {
				t.Errorf("Scan of %s: %v, %v", s, got, f)
			}
			if spelling, e := lexer.Spell(num(m, 0)); spelling != s || e != api.OK {
				t.Errorf("Spell of %d: %q, %d", m, spelling, e)
			}
		}
	}
}

// The Rules: results share no memory with each other.
func TestResultsAreApart(t *testing.T) {
	const s = "a = 5, b: # c"
	first, _ := lexer.Scan(s)
	second, _ := lexer.Scan(s)
	clear(first.Tokens)
	third, _ := lexer.Scan(s)
	if !same(second, third) || len(third.Tokens) != 5 || third.Tokens[0] != word("a", 1) {
		t.Errorf("Scan of %q: %v, then %v", s, second, third)
	}
	lines, _ := lexer.Lines("a\nb")
	clear(lines)
	if again, _ := lexer.Lines("a\nb"); len(again) != 2 || again[0] != "a" || again[1] != "b" {
		t.Errorf("Lines: %q", again)
	}
}
