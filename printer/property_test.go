package printer_test

import (
	"math/rand"
	"slices"
	"strings"
	"testing"

	"gangsaw/api"
	"gangsaw/parser"
	"gangsaw/printer"
)

// someTree returns a random well-formed tree, with odd numbers of lines and columns, that may be too great to be printed.
func someTree(random *rand.Rand, depth, most int) []api.Line {
	letters := []api.Token{word("a"), word("Bed_2"), num(0), num(-120), num(1e15), text("("), text("a , b"), text("#"), text(":"), sign("("), sign(")"), sign(","), sign("="), sign(":"), sign("<"), sign(">"), sign("+"), sign("/"), text(strings.Repeat("x", 40)), word(strings.Repeat("W", 40))}
	var lines []api.Line
	for range random.Intn(most + 1) {
		l := api.Line{Heading: random.Intn(2) == 0, At: random.Intn(100) - 50}
		tokens, usual := 1+random.Intn(6), letters
		if random.Intn(20) == 0 {
			tokens, usual = 1+random.Intn(63), letters[len(letters)-1-random.Intn(6):]
		}
		for range tokens {
			token := usual[random.Intn(len(usual))]
			token.At = random.Intn(100) - 50
			l.Tokens = append(l.Tokens, token)
		}
		if last := &l.Tokens[len(l.Tokens)-1]; !l.Heading && last.Text == ":" {
			*last = word("b")
		}
		if l.Heading && depth < api.MaxIndent {
			l.Kids = someTree(random, depth+1, most)
		}
		lines = append(lines, l)
	}
	return lines
}

// definedRows returns the canonical lines of a tree, and whether they may be printed.
func definedRows(lines []api.Line, depth int) ([]string, bool) {
	var rows []string
	fits := true
	for _, l := range lines {
		row := defined(l.Tokens, l.Heading, depth)
		kids, kidsFit := definedRows(l.Kids, depth+1)
		rows = append(append(rows, row), kids...)
		fits = fits && kidsFit && len(row) <= 1000
	}
	return rows, fits && len(source(rows...)) <= api.MaxSource
}

// P11.1 to P11.3 and P11.5: random trees have the canonical sources that are defined, and these are read as the numbered trees.
func TestPropertiesOfRandomTrees(t *testing.T) {
	random := rand.New(rand.NewSource(6))
	printed, refused := 0, 0
	for round := range 2000 {
		lines := someTree(random, 0, 1+round%5)
		rows, fits := definedRows(lines, 0)
		if !fits {
			refused++
			if e := printer.Check(lines); e != api.ErrTooMany {
				t.Fatalf("Check of %q: %d", rows, e)
			}
			continue
		}
		printed++
		checkTree(t, lines, rows)
	}
	if printed < 500 || refused < 50 {
		t.Errorf("%d trees are printed, %d refused", printed, refused)
	}
}

func checkTree(t *testing.T, lines []api.Line, rows []string) {
	t.Helper()
	before := changed(lines, func(n int) int { return n })
	want := source(rows...)
	got, e := printer.Print(lines)
	if e != api.OK || got != want || printer.Check(lines) != api.OK {
		t.Fatalf("Print: %q, %d, want %q", got, e, want)
	}
	numbered, e := printer.Number(lines)
	parsed, f := parser.Parse(got)
	if e != api.OK || f.Code != api.OK || !equal(numbered, parsed) || !printer.Same(numbered, lines) {
		t.Fatalf("Number for %q: %v, %d", want, numbered, e)
	}
	checkNumbers(t, numbered, rows)
	if again, e := printer.Print(numbered); e != api.OK || again != want {
		t.Fatalf("Print of the numbered tree: %q, %d, want %q", again, e, want)
	}
	if got, e := printer.Rows(want); e != api.OK || !slices.Equal(got, rows) {
		t.Fatalf("Rows: %q, %d, want %q", got, e, rows)
	}
	if !equal(lines, before) {
		t.Fatalf("the tree of %q is modified", want)
	}
}

// checkNumbers checks that each token of a numbered tree begins at its column of its row.
func checkNumbers(t *testing.T, lines []api.Line, rows []string) {
	t.Helper()
	next := 1
	var walk func(lines []api.Line)
	walk = func(lines []api.Line) {
		for _, l := range lines {
			if l.At != next {
				t.Fatalf("the line %d has the number %d", next, l.At)
			}
			next++
			for _, token := range l.Tokens {
				spelling, _ := printer.Token(token)
				if !strings.HasPrefix(rows[l.At-1][token.At-1:], spelling) {
					t.Fatalf("%q does not stand at the column %d of %q", spelling, token.At, rows[l.At-1])
				}
			}
			walk(l.Kids)
		}
	}
	walk(lines)
}

// P11.5: blanks and comments of a source do not change its rows.
func TestRowsOfOtherWriting(t *testing.T) {
	want := []string{"wall south:", `  joint (5, "a b") = x`, "note"}
	for _, s := range []string{
		"wall south:\n  joint (5, \"a b\") = x\nnote\n",
		"wall south:\n  joint(5,\"a b\")=x\nnote",
		"\n# x\nwall south   : #:\n\n     # y\n  joint ( 5 , \"a b\" ) =  x   # z\n   \nnote#\n\n",
	} {
		if got, e := printer.Rows(s); e != api.OK || !slices.Equal(got, want) {
			t.Errorf("Rows of %q: %q, %d", s, got, e)
		}
	}
}
