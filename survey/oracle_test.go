package survey_test

import (
	"fmt"
	"math/rand"
	"strings"
	"testing"

	"gangsaw/api"
	"gangsaw/parser"
	"gangsaw/survey"
)

// form returns the forms of the tokens behind a word that begins a kid; the last one of open is repeated.
func form(word string, tokens int) []string {
	switch word {
	case "pit":
		return strings.Fields("N N N N N N")
	case "open":
		return strings.Fields(strings.Repeat("SIDE ", max(1, tokens-1)))
	case "bed":
		return strings.Fields("NAME N")
	case "joint":
		return strings.Fields("NAME AXIS N N N")
	case "flaw":
		return strings.Fields("NAME N N")
	}
	return strings.Fields("N N")
}

// spelled returns the words and signs as they are spelled, numbers as #, and texts as ".
func spelled(t api.Token) string {
	switch t.Kind {
	case api.TokNumber:
		return "#"
	case api.TokText:
		return `"`
	}
	return t.Text
}

// tokenError returns the error of a token that must have a form; before are the tokens before it.
func tokenError(t api.Token, form string, before []api.Token) api.Errno {
	s := spelled(t)
	isWord := t.Kind == api.TokWord
	switch form {
	case "N":
		if s != "#" {
			return api.ErrSyntax
		}
		if t.N > 1000000 || t.N < -1000000 {
			return api.ErrRange
		}
	case "NAME":
		if !isWord {
			return api.ErrSyntax
		}
		if strings.ToLower(s) != s {
			return api.ErrName
		}
	case "AXIS":
		if s != "x" && s != "y" {
			return api.ErrSyntax
		}
	case "SIDE":
		if s != "east" && s != "west" && s != "north" && s != "south" {
			return api.ErrSyntax
		}
		for _, b := range before {
			if b.Text == s {
				return api.ErrDuplicate
			}
		}
	}
	return api.OK
}

// lineFault returns the fault of a kid that begins with one of some words, without its kids.
func lineFault(l api.Line, words string, given string) string {
	at := func(e api.Errno, i int) string {
		return fmt.Sprint(int(e), l.At, l.Tokens[min(i, len(l.Tokens)-1)].At)
	}
	word := spelled(l.Tokens[0])
	if !strings.Contains(words, " "+word+" ") {
		return at(api.ErrSyntax, 0)
	}
	if (word == "pit" || word == "open") && strings.Contains(given, word) {
		return at(api.ErrDuplicate, 0)
	}
	forms := form(word, len(l.Tokens))
	for i := 1; i < len(l.Tokens) || i <= len(forms); i++ {
		if i >= len(l.Tokens) || i > len(forms) {
			return at(api.ErrSyntax, i)
		}
		if e := tokenError(l.Tokens[i], forms[i-1], l.Tokens[1:i]); e != api.OK {
			return at(e, i)
		}
	}
	if l.Heading != (word == "flaw") {
		return at(api.ErrSyntax, 0)
	}
	return ""
}

// firstFault returns the first fault of the kids of a survey's line, or an empty text.
func firstFault(l api.Line) string {
	given := ""
	for _, kid := range l.Kids {
		if f := lineFault(kid, " pit open bed joint flaw ", given); f != "" {
			return f
		}
		given += kid.Tokens[0].Text
		for _, c := range kid.Kids {
			if f := lineFault(c, " corner ", ""); f != "" {
				return f
			}
		}
	}
	if !strings.Contains(given, "pit") {
		return fmt.Sprint(int(api.ErrNone), l.At, l.Tokens[0].At)
	}
	return ""
}

// goodRows returns rows without a fault, one of which is the pit, perhaps.
func goodRows(r *rand.Rand) []string {
	rows := []string{"  pit 0 0 0 100 100 100", "  open east north", "  bed b 5", "  bed c -7", "  joint j x 30 0 60", "  joint k y 10 5 2000", "  flaw f 0 5:"}
	r.Shuffle(len(rows), func(i, k int) { rows[i], rows[k] = rows[k], rows[i] })
	var out []string
	for _, row := range rows[r.Intn(3):] {
		out = append(out, row)
		for range r.Intn(4) {
			if strings.HasSuffix(row, ":") {
				out = append(out, fmt.Sprintf("    corner %d %d", r.Intn(100), r.Intn(100)))
			}
		}
	}
	return out
}

// damage changes a token of a row, adds one, or takes one away.
func damage(r *rand.Rand, row string) string {
	words := []string{"pit", "open", "bed", "joint", "flaw", "corner", "east", "south", "x", "y", "z", "a", "A", "7", "-5", "1000000", "1000001", "-1000001", "\"a\"", "(", "+"}
	colon := strings.HasSuffix(row, ":")
	if r.Intn(8) == 0 {
		colon = !colon
	}
	fields := strings.Fields(strings.TrimSuffix(row, ":"))
	i := r.Intn(len(fields))
	switch r.Intn(4) {
	case 0:
		fields[i] = words[r.Intn(len(words))]
	case 1:
		fields = append(fields[:i:i], append([]string{words[r.Intn(len(words))]}, fields[i:]...)...)
	case 2:
		if len(fields) > 1 {
			fields = append(fields[:i:i], fields[i+1:]...)
		}
	}
	indent := row[:len(row)-len(strings.TrimLeft(row, " "))]
	row = indent + strings.Join(fields, " ")
	if colon {
		row += ":"
	}
	return row
}

// P13.4: the first fault of many lines with damaged rows.
func TestFaultsByForms(t *testing.T) {
	r := rand.New(rand.NewSource(134))
	seen := map[byte]int{}
	for range 60000 {
		rows := goodRows(r)
		for range 1 + r.Intn(3) {
			i := r.Intn(len(rows))
			rows[i] = damage(r, rows[i])
		}
		lines, fault := parser.Parse("survey:\n" + strings.Join(rows, "\n"))
		if fault.Code != api.OK {
			continue
		}
		_, got := survey.Load(lines[0])
		want := firstFault(lines[0])
		if want == "" {
			// What Check says is tested elsewhere.
			if got.Code != api.OK && (got.Line != 1 || got.Col != 1 || got.Code == api.ErrSyntax || got.Code == api.ErrNone) {
				t.Fatalf("Load of %q: %v", rows, got)
			}
			continue
		}
		seen[want[0]]++
		if s := fmt.Sprint(int(got.Code), got.Line, got.Col); s != want {
			t.Fatalf("Load of %q: fault %s instead of %s", rows, s, want)
		}
	}
	for _, code := range "24569" {
		if seen[byte(code)] < 100 {
			t.Errorf("the error %c is seen %d times", code, seen[byte(code)])
		}
	}
}
