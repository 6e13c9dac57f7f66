package printer_test

import (
	"math"
	"slices"
	"strings"
	"testing"

	"gangsaw/api"
	"gangsaw/printer"
)

// treeErrors returns what the functions of a tree answer, and whether their other results are zero.
func treeErrors(lines []api.Line) (map[string]api.Errno, bool) {
	s, e1 := printer.Print(lines)
	numbered, e2 := printer.Number(lines)
	return map[string]api.Errno{"Check": printer.Check(lines), "Print": e1, "Number": e2}, s == "" && len(numbered) == 0
}

// nested returns a tree of so many headings within each other.
func nested(levels int) []api.Line {
	var lines []api.Line
	for range levels {
		lines = []api.Line{head("a", lines...)}
	}
	return lines
}

// wide returns a line whose spellings have so many bytes together, with one blank between two neighbours.
func wide(bytes int) api.Line {
	var l api.Line
	for bytes > 80 {
		l.Tokens = append(l.Tokens, word(strings.Repeat("w", 39)))
		bytes -= 40
	}
	return plain(append(l.Tokens, word(strings.Repeat("w", bytes/2)), word(strings.Repeat("x", bytes-bytes/2-1)))...)
}

// P1 and P11.1: all tokens that are not possible are refused.
func TestErrorsOfToken(t *testing.T) {
	for _, token := range []api.Token{
		{},
		{Kind: 5, Text: "a"},
		{Kind: -1, Text: "a"},
		word(""),
		word("a b"),
		word("1a"),
		word(strings.Repeat("a", 41)),
		num(1000000000000001),
		num(math.MinInt64),
		text(""),
		text(`a"b`),
		text(" a"),
		sign(""),
		sign("(("),
		sign("#"),
		{Kind: api.TokWord, Text: "a", N: 1},
		{Kind: api.TokNumber, Text: "1", N: 1},
	} {
		if got, e := printer.Token(token); got != "" || e != api.ErrSyntax {
			t.Errorf("Token of %v: %q, %d", token, got, e)
		}
	}
}

// P1 and P11.1: the errors of trees, those of parser.Check before that of what is too long.
func TestErrorsOfTrees(t *testing.T) {
	long := wide(1001)
	many := slices.Repeat([]api.Line{plain(word("a"))}, api.MaxSource)
	heading := wide(1000)
	heading.Heading = true
	for name, c := range map[string]struct {
		lines []api.Line
		want  api.Errno
	}{
		"a line without tokens":           {[]api.Line{plain()}, api.ErrInvalid},
		"a token that is not possible":    {[]api.Line{plain(word("a"), word("a b"))}, api.ErrInvalid},
		"a colon that is a token":         {[]api.Line{plain(word("a"), sign(":"))}, api.ErrInvalid},
		"kids of a line":                  {[]api.Line{{Tokens: []api.Token{word("a")}, Kids: nested(1)}}, api.ErrInvalid},
		"a wrong line within others":      {[]api.Line{head("a", head("b", plain()))}, api.ErrInvalid},
		"too many tokens":                 {[]api.Line{plain(slices.Repeat([]api.Token{num(1)}, 65)...)}, api.ErrTooMany},
		"too many tokens of a heading":    {[]api.Line{{Tokens: slices.Repeat([]api.Token{num(1)}, 64), Heading: true}}, api.ErrTooMany},
		"too deep":                        {nested(8), api.ErrTooMany},
		"a long line":                     {[]api.Line{long}, api.ErrTooMany},
		"a long heading":                  {[]api.Line{heading}, api.ErrTooMany},
		"a line that is long by its kin":  {[]api.Line{head("a", wide(999))}, api.ErrTooMany},
		"many lines":                      {many, api.ErrTooMany},
		"a long line, and an invalid one": {[]api.Line{long, plain()}, api.ErrInvalid},
		"many lines, the last one wrong":  {append(slices.Clip(many), plain()), api.ErrInvalid},
		"too deep, and an invalid line":   {append(nested(9), plain()), api.ErrInvalid},
	} {
		got, zero := treeErrors(c.lines)
		for call, e := range got {
			if e != c.want {
				t.Errorf("%s of %s: %d, want %d", call, name, e, c.want)
			}
		}
		if !zero {
			t.Errorf("of %s: results beside the error", name)
		}
	}
}

// P1: trees just within the limits have no error.
func TestNoErrorsOfTrees(t *testing.T) {
	heading := wide(999)
	heading.Heading = true
	for name, lines := range map[string][]api.Line{
		"a long line":              {wide(1000)},
		"a long heading":           {heading},
		"a long line within":       {head("a", wide(998))},
		"many tokens":              {plain(slices.Repeat([]api.Token{num(1)}, 64)...)},
		"many tokens of a heading": {{Tokens: slices.Repeat([]api.Token{num(1)}, 63), Heading: true}},
		"a deep tree":              nested(7),
	} {
		got, zero := treeErrors(lines)
		for call, e := range got {
			if e != api.OK {
				t.Errorf("%s of %s: %d", call, name, e)
			}
		}
		if zero {
			t.Errorf("of %s: no results", name)
		}
	}
}

// P1 and P11.1: a canonical source may have MaxSource bytes, and not one more.
func TestLongSources(t *testing.T) {
	for last, want := range map[int]api.Errno{65: api.OK, 66: api.ErrTooMany} {
		// 65 lines of 1001 bytes and a heading of 3 leave 468 of the 65536 bytes, and these are two blanks, the line and its end.
		lines := append(slices.Repeat([]api.Line{wide(1000)}, 65), head("a", wide(last+400)))
		s, e := printer.Print(lines)
		if e != want || want == api.OK && len(s) != api.MaxSource {
			t.Errorf("Print: %d bytes, %d, want %d", len(s), e, want)
		}
		if got := printer.Check(lines); got != want {
			t.Errorf("Check: %d, want %d", got, want)
		}
		numbered, e := printer.Number(lines)
		if e != want || want == api.OK && numbered[65].Kids[0].At != 67 {
			t.Errorf("Number: %d lines, %d, want %d", len(numbered), e, want)
		}
	}
	lines := slices.Repeat([]api.Line{plain(num(1))}, api.MaxSource/2)
	if s, e := printer.Print(lines); e != api.OK || len(s) != api.MaxSource {
		t.Errorf("Print of short lines: %d bytes, %d", len(s), e)
	}
}

// P1: a small tree in memory may have a great number of lines, or contain itself.
func TestTreesThatShareTheirLines(t *testing.T) {
	var lines []api.Line
	for range 7 {
		lines = slices.Repeat([]api.Line{head("a", lines...)}, 1000)
	}
	ring := []api.Line{head("a")}
	ring[0].Kids = ring
	for _, tree := range [][]api.Line{lines, ring} {
		got, zero := treeErrors(tree)
		for call, e := range got {
			if e != api.ErrTooMany || !zero {
				t.Errorf("%s: %d", call, e)
			}
		}
	}
	if !printer.Same(ring, ring) || printer.Same(ring, lines) {
		t.Error("Same")
	}
}

// P1 and P11.3: Rows answers the code of the first fault, or that its canonical source is too long.
func TestErrorsOfRows(t *testing.T) {
	narrow := strings.Repeat("a+", 31) + `"` + strings.Repeat("x", 40) + `"`
	full := strings.Repeat("a\n", api.MaxSource/2)
	for name, c := range map[string]struct {
		source string
		want   api.Errno
	}{
		"a wrong number":                    {"a\n007\n", api.ErrSyntax},
		"a wrong depth":                     {"a\n  b\n", api.ErrSyntax},
		"a great number":                    {"a 1000000000000001", api.ErrRange},
		"an empty text":                     {`a ""`, api.ErrName},
		"a long line":                       {strings.Repeat(" ", 1001), api.ErrTooMany},
		"a long source":                     {full + "#", api.ErrTooMany},
		"a long source with wrong lines":    {"007\n" + full, api.ErrTooMany},
		"a wrong line, and a narrow one":    {"007\n" + lineOfSigns(1000), api.ErrSyntax},
		"a line that becomes longer":        {lineOfSigns(1000), api.ErrTooMany},
		"a source that becomes longer":      {strings.Repeat(narrow+"\n", 65536/105), api.ErrTooMany},
		"a source without its last end":     {full[:api.MaxSource-2] + "aa", api.ErrTooMany},
		"a source that stays within":        {full[:api.MaxSource-2] + "a", api.OK},
		"a line that becomes just too long": {lineOfSigns(970), api.ErrTooMany},
		"a line that becomes long":          {lineOfSigns(969), api.OK},
	} {
		got, e := printer.Rows(c.source)
		if e != c.want || e != api.OK && len(got) != 0 {
			t.Errorf("Rows of %s: %d rows, %d, want %d", name, len(got), e, c.want)
		}
	}
}

// lineOfSigns returns a line of so many bytes whose canonical line has 31 bytes more: 32 words, between which there are no blanks.
func lineOfSigns(bytes int) string {
	var b strings.Builder
	for i := range 16 {
		left := (bytes - b.Len()) / (16 - i)
		b.WriteString(`"` + strings.Repeat("x", min(40, left-25)) + `"`)
		b.WriteString(strings.Repeat("w", left-2-min(40, left-25)))
	}
	return b.String()
}

// P1 and P11.4: more than 500 rows on one side are refused.
func TestErrorsOfDiff(t *testing.T) {
	few, most, many := []string{"a"}, slices.Repeat([]string{"a"}, 500), slices.Repeat([]string{"a"}, 501)
	for _, c := range []struct {
		old, now []string
		want     api.Errno
	}{
		{many, few, api.ErrTooMany},
		{few, many, api.ErrTooMany},
		{many, nil, api.ErrTooMany},
		{nil, many, api.ErrTooMany},
		{many, many, api.ErrTooMany},
		{most, most, api.OK},
		{most, few, api.OK},
		{few, most, api.OK},
	} {
		if got, e := printer.Diff(c.old, c.now); e != c.want || (e == api.OK) != (len(got) > 0) {
			t.Errorf("Diff of %d and %d rows: %d edits, %d", len(c.old), len(c.now), len(got), e)
		}
	}
}

// P1 and P11.4: edits of other kinds are refused before edits that do not fit.
func TestErrorsOfApply(t *testing.T) {
	for _, c := range []struct {
		old   []string
		edits []printer.Edit
		want  api.Errno
	}{
		{[]string{"a"}, []printer.Edit{keep("b")}, api.ErrConflict},
		{[]string{"a"}, []printer.Edit{remove("b")}, api.ErrConflict},
		{[]string{"a"}, nil, api.ErrConflict},
		{[]string{"a"}, []printer.Edit{insert("a")}, api.ErrConflict},
		{[]string{"a", "b"}, []printer.Edit{keep("a")}, api.ErrConflict},
		{[]string{"a", "b"}, []printer.Edit{remove("a")}, api.ErrConflict},
		{[]string{"a", "b"}, []printer.Edit{keep("b"), keep("a")}, api.ErrConflict},
		{[]string{"a"}, []printer.Edit{keep("a"), keep("a")}, api.ErrConflict},
		{[]string{"a"}, []printer.Edit{keep("a"), remove("a")}, api.ErrConflict},
		{nil, []printer.Edit{keep("a")}, api.ErrConflict},
		{nil, []printer.Edit{remove("")}, api.ErrConflict},
		{nil, []printer.Edit{insert("a"), keep("a")}, api.ErrConflict},
		{nil, []printer.Edit{{Kind: 3}}, api.ErrInvalid},
		{nil, []printer.Edit{{Kind: -1}}, api.ErrInvalid},
		{[]string{"a"}, []printer.Edit{keep("a"), {Kind: math.MaxInt, Text: "a"}}, api.ErrInvalid},
		{[]string{"a"}, []printer.Edit{keep("b"), {Kind: math.MinInt, Text: "a"}}, api.ErrInvalid},
		{[]string{"a", "b"}, []printer.Edit{{Kind: 3, Text: "a"}}, api.ErrInvalid},
	} {
		if got, e := printer.Apply(c.old, c.edits); e != c.want || len(got) != 0 {
			t.Errorf("Apply of %v to %q: %q, %d, want %d", c.edits, c.old, got, e, c.want)
		}
	}
}
