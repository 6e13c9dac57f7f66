package lexer_test

import (
	"reflect"
	"strings"
	"testing"

	"gangsaw/api"
	"gangsaw/lexer"
)

// Tokens as they are scanned, at a column.
func word(s string, at int) api.Token { return api.Token{Kind: api.TokWord, Text: s, At: at} }
func num(n int64, at int) api.Token   { return api.Token{Kind: api.TokNumber, N: n, At: at} }
func text(s string, at int) api.Token { return api.Token{Kind: api.TokText, Text: s, At: at} }
func sign(s string, at int) api.Token { return api.Token{Kind: api.TokSign, Text: s, At: at} }

// line returns what a line without a comment has that is no heading.
func line(indent int, tokens ...api.Token) lexer.Scanned {
	return lexer.Scanned{Indent: indent, Tokens: tokens}
}

// heading returns what a heading without a comment has.
func heading(indent int, tokens ...api.Token) lexer.Scanned {
	return lexer.Scanned{Indent: indent, Tokens: tokens, Heading: true}
}

// same compares what two lines have; nil and empty lists are the same.
func same(a, b lexer.Scanned) bool {
	if len(a.Tokens) == 0 && len(b.Tokens) == 0 {
		a.Tokens, b.Tokens = nil, nil
	}
	return reflect.DeepEqual(a, b)
}

// P9.1: the first two examples of the chapter.
func TestExamples(t *testing.T) {
	seen := line(1, word("bed", 3), sign("=", 7), word("upper", 9), sign(",", 14), num(-120, 16))
	seen.Comment = " seen"
	for s, want := range map[string]lexer.Scanned{
		"  bed = upper, -120  # seen": seen,
		"wall south:":                 heading(0, word("wall", 1), word("south", 6)),
	} {
		if got, f := lexer.Scan(s); f != (api.Fault{}) || !same(got, want) {
			t.Errorf("Scan of %q: %v, %v, want %v", s, got, f, want)
		}
	}
}

// P9.1: words, numbers, texts and signs, with and without blanks between them.
func TestTokensOfLines(t *testing.T) {
	for s, want := range map[string]lexer.Scanned{
		"a":        line(0, word("a", 1)),
		"A_9z b":   line(0, word("A_9z", 1), word("b", 6)),
		"x1-2":     line(0, word("x1", 1), num(-2, 3)),
		"5-3":      line(0, num(5, 1), num(-3, 2)),
		"0 -1 10":  line(0, num(0, 1), num(-1, 3), num(10, 6)),
		`12"34"56`: line(0, num(12, 1), text("34", 3), num(56, 7)),
		`a"b"c`:    line(0, word("a", 1), text("b", 2), word("c", 5)),
		`"a # b:"`: line(0, text("a # b:", 1)),
		"(),=<>+/": line(0, sign("(", 1), sign(")", 2), sign(",", 3), sign("=", 4), sign("<", 5), sign(">", 6), sign("+", 7), sign("/", 8)),
		"a:b":      line(0, word("a", 1), sign(":", 2), word("b", 3)),
		": a":      line(0, sign(":", 1), word("a", 3)),
		"+5":       line(0, sign("+", 1), num(5, 2)),
		"a  ":      line(0, word("a", 1)),
		"  a":      line(1, word("a", 3)),
		"    (":    line(2, sign("(", 5)),
	} {
		if got, f := lexer.Scan(s); f != (api.Fault{}) || !same(got, want) {
			t.Errorf("Scan of %q: %v, %v, want %v", s, got, f, want)
		}
	}
}

// P9.1: a heading ends with a colon, which is no token of it, wherever blanks and comments stand.
func TestHeadings(t *testing.T) {
	withComment := heading(1, num(5, 3))
	withComment.Comment = " : b"
	for s, want := range map[string]lexer.Scanned{
		"a:":         heading(0, word("a", 1)),
		"a :  ":      heading(0, word("a", 1)),
		"::":         heading(0, sign(":", 1)),
		": :":        heading(0, sign(":", 1)),
		"a::":        heading(0, word("a", 1), sign(":", 2)),
		`  ":" :`:    heading(1, text(":", 3)),
		"  5:# : b":  withComment,
		"a \":\"":    line(0, word("a", 1), text(":", 3)),
		"    1 2 : ": heading(2, num(1, 5), num(2, 7)),
	} {
		if got, f := lexer.Scan(s); f != (api.Fault{}) || !same(got, want) {
			t.Errorf("Scan of %q: %v, %v, want %v", s, got, f, want)
		}
	}
}

// P9.1: lines without tokens have the indentation 0, whatever blanks stand in front of the comment, which has any bytes.
func TestLinesWithoutTokens(t *testing.T) {
	for s, comment := range map[string]string{
		"":                        "",
		" ":                       "",
		"   ":                     "",
		strings.Repeat(" ", 1000): "",
		"#":                       "",
		"# note":                  " note",
		"   # odd":                " odd",
		"  #a:":                   "a:",
		"##":                      "#",
		"#\x00\t\xff\n\"x":        "\x00\t\xff\n\"x",
		strings.Repeat(" ", 15) + "#too deep for a token": "too deep for a token",
	} {
		got, f := lexer.Scan(s)
		if want := (lexer.Scanned{Comment: comment}); f != (api.Fault{}) || !same(got, want) {
			t.Errorf("Scan of %q: %v, %v, want %v", s, got, f, want)
		}
	}
}

// P9.1: the comment behind tokens belongs to the line; a # in a text begins none.
func TestComments(t *testing.T) {
	for s, want := range map[string]string{
		"a#":               "",
		"a#b # c":          "b # c",
		`a "#" #  x `:      "  x ",
		`a # "no text`:     ` "no text`,
		"a # 007 \t\x80":   " 007 \t\x80",
		"12# behind a 12":  " behind a 12",
		"a (# open \xc3\n": " open \xc3\n",
	} {
		if got, f := lexer.Scan(s); f != (api.Fault{}) || got.Comment != want || len(got.Tokens) == 0 {
			t.Errorf("Scan of %q: %v, %v, want the comment %q", s, got, f, want)
		}
	}
}

// P9.1: what is just within the limits is no fault.
func TestWithinTheLimits(t *testing.T) {
	long := strings.Repeat("a", api.MaxLabel)
	label := "a" + strings.Repeat(" ", api.MaxLabel-2) + "~"
	full := strings.Repeat("a ", lexer.MaxTokens)
	for s, want := range map[string]lexer.Scanned{
		strings.Repeat(" ", 12) + "a":     line(api.MaxIndent, word("a", 13)),
		long:                              line(0, word(long, 1)),
		`"` + label + `"`:                 line(0, text(label, 1)),
		"1000000000000000":                line(0, num(lexer.MaxNumber, 1)),
		"-1000000000000000":               line(0, num(-lexer.MaxNumber, 1)),
		"a " + strings.Repeat(" ", 997):   line(0, word("a", 1)),
		"  a" + strings.Repeat(" ", 997):  line(1, word("a", 3)),
		strings.Repeat(" ", 998) + "#a":   {Comment: "a"},
		"#" + strings.Repeat("\xff", 999): {Comment: strings.Repeat("\xff", 999)},
	} {
		if got, f := lexer.Scan(s); f != (api.Fault{}) || !same(got, want) {
			t.Errorf("Scan of %q: %v, %v, want %v", s, got, f, want)
		}
	}
	if got, f := lexer.Scan(full + "# x"); f != (api.Fault{}) || len(got.Tokens) != 64 || got.Tokens[63] != word("a", 127) {
		t.Errorf("64 tokens: %d, %v", len(got.Tokens), f)
	}
	if got, f := lexer.Scan(full[2:] + ":"); f != (api.Fault{}) || len(got.Tokens) != 63 || !got.Heading {
		t.Errorf("a heading with 63 tokens: %d, %v", len(got.Tokens), f)
	}
}

// P9.2: the lines of a source are the parts between its bytes 10.
func TestLines(t *testing.T) {
	for source, want := range map[string][]string{
		"":             {},
		"\n":           {""},
		"\n\n":         {"", ""},
		"a":            {"a"},
		"a\n":          {"a"},
		"a\nb":         {"a", "b"},
		"a\n\n b \n":   {"a", "", " b "},
		"\na":          {"", "a"},
		"a\r\nb\r":     {"a\r", "b\r"},
		"\x00\xff\n\t": {"\x00\xff", "\t"},
		"a\u2028b\x85": {"a\u2028b\x85"},
	} {
		got, e := lexer.Lines(source)
		if e != api.OK || len(got) != len(want) || strings.Join(got, "\n") != strings.Join(want, "\n") {
			t.Errorf("Lines of %q: %q, %d, want %q", source, got, e, want)
		}
	}
}

// P1 and P9.2: a source may have MaxSource bytes, and no more.
func TestLongSources(t *testing.T) {
	for _, part := range []string{"\n", "a", "a\n"} {
		source := strings.Repeat(part, api.MaxSource/len(part))
		if got, e := lexer.Lines(source); e != api.OK || len(got) != max(1, strings.Count(source, "\n")) {
			t.Errorf("Lines of %d bytes: %d lines, %d", len(source), len(got), e)
		}
		if got, e := lexer.Lines(source + "\n"); e != api.ErrTooMany || len(got) != 0 {
			t.Errorf("Lines of one byte more: %d lines, %d", len(got), e)
		}
	}
}
