package lexer_test

import (
	"strings"
	"testing"

	"gangsaw/api"
	"gangsaw/lexer"
)

// faultCase is a line with its first fault.
type faultCase struct {
	line string
	code api.Errno
	col  int
}

func checkFaults(t *testing.T, cases []faultCase) {
	t.Helper()
	for _, c := range cases {
		got, f := lexer.Scan(c.line)
		if want := (api.Fault{Code: c.code, Col: c.col}); f != want || !same(got, lexer.Scanned{}) {
			t.Errorf("Scan of %q: %v, %v, want %v", c.line, got, f, want)
		}
	}
}

// P9.1: the third example of the chapter, and the colon of the second one.
func TestExamplesOfFaults(t *testing.T) {
	checkFaults(t, []faultCase{
		{":", api.ErrSyntax, 1},
		{"007", api.ErrSyntax, 1},
		{"12a", api.ErrSyntax, 1},
		{"-0", api.ErrSyntax, 1},
		{`"a`, api.ErrSyntax, 1},
		{`a "a`, api.ErrSyntax, 3},
		{`""`, api.ErrName, 1},
	})
}

// P9.1: a line has at most MaxLine bytes, blanks and comments included.
func TestLongLines(t *testing.T) {
	for _, part := range []string{" ", "#", "a", "\t", "é"} {
		checkFaults(t, []faultCase{{strings.Repeat(part, 1001), api.ErrTooMany, 1001}})
	}
	checkFaults(t, []faultCase{
		{"a" + strings.Repeat(" ", 1000), api.ErrTooMany, 1001},
		{"   -0 # " + strings.Repeat("x", 5000), api.ErrTooMany, 1001},
		{strings.Repeat("a ", 501), api.ErrTooMany, 1001},
	})
}

// P9.1: the indentation is even and not too great, if there is more than blanks and a comment.
func TestFaultsOfIndentation(t *testing.T) {
	checkFaults(t, []faultCase{
		{" a", api.ErrSyntax, 2},
		{"   a", api.ErrSyntax, 4},
		{" \t", api.ErrSyntax, 2},
		{" :", api.ErrSyntax, 2},
		{" 007", api.ErrSyntax, 2},
		{` ""`, api.ErrSyntax, 2},
		{" " + strings.Repeat("a", 41), api.ErrSyntax, 2},
		{"           a", api.ErrSyntax, 12},
		{"             a", api.ErrSyntax, 14},
		{"              a", api.ErrTooMany, 15},
		{"               a", api.ErrSyntax, 16},
		{"              \t", api.ErrTooMany, 15},
		{"              :", api.ErrTooMany, 15},
		{`              ""`, api.ErrTooMany, 15},
		{"            :", api.ErrSyntax, 13},
		{"            -", api.ErrSyntax, 13},
	})
}

// P9.1: the first thing behind MaxTokens tokens is too much, whatever it is.
func TestTooManyTokens(t *testing.T) {
	full := strings.Repeat("a ", lexer.MaxTokens)
	for _, more := range []string{"a", ":", "007", "-0", "\t", "\xff", `"`, `""`, "9999999999999999", strings.Repeat("b", 41)} {
		checkFaults(t, []faultCase{{full + more, api.ErrTooMany, 129}})
	}
	tight := strings.Repeat("(", lexer.MaxTokens)
	checkFaults(t, []faultCase{
		{full + "   b b", api.ErrTooMany, 132},
		{tight + ":", api.ErrTooMany, 65},
		{"  " + tight + "\x80", api.ErrTooMany, 67},
		{tight[1:] + ":)", api.ErrTooMany, 65},
		{tight[1:] + "-0 a a", api.ErrSyntax, 64},
		{" " + tight + ":", api.ErrSyntax, 2},
	})
}

// P9.1: bytes with which no token begins, numbers of a wrong form, and texts without an end.
func TestSyntaxOfTokens(t *testing.T) {
	for _, s := range []string{
		"\t", "\n", "\r", "\x00", "\x7f", "\x80", "\xff", "é", "_a", "-", "--1", "-a", "- 1", "-_", "!", "$", "%", "&", "'", "*", ".", ";", "?", "@", "[", "\\", "]", "^", "`", "{", "|", "}", "~",
		"00", "01", "-01", "-00", "0a", "0_", "1_", "12A", "-5x", "5_5", "007a",
		"1000000000000000z", "01000000000000001", "99999999999999999999x", "-09999999999999999999", strings.Repeat("0", 500), strings.Repeat("9", 500) + "_",
		`"`, `"abc`, `"a # b`, `" `, `"` + strings.Repeat("a", 41), "\"\xff", "\"\n",
	} {
		checkFaults(t, []faultCase{
			{s, api.ErrSyntax, 1},
			{"  " + s, api.ErrSyntax, 3},
			{"bed ( " + s, api.ErrSyntax, 7},
			{"bed(" + s, api.ErrSyntax, 5},
		})
	}
}

// P9.1: numbers that are too great.
func TestGreatNumbers(t *testing.T) {
	for _, s := range []string{"1000000000000001", "-1000000000000001", "9999999999999999", "9223372036854775808", "-9223372036854775809", "18446744073709551617", strings.Repeat("1", 900)} {
		checkFaults(t, []faultCase{
			{s, api.ErrRange, 1},
			{"    a," + s + ":", api.ErrRange, 7},
			{s + "#x", api.ErrRange, 1},
			{s + "-", api.ErrRange, 1},
		})
	}
}

// P9.1: words that are too long, and texts with something else than a label.
func TestNamesOfTokens(t *testing.T) {
	for _, s := range []string{
		strings.Repeat("a", 41), strings.Repeat("Z", 900), "a" + strings.Repeat("_", 20) + strings.Repeat("9", 20),
		`""`, `" "`, `" a"`, `"a "`, "\"\t\"", "\"a\x7f\"", "\"a\nb\"", "\"\xff\"", `"é"`, `"` + strings.Repeat("a", 41) + `"`, `"a # "`,
	} {
		checkFaults(t, []faultCase{
			{s, api.ErrName, 1},
			{"  x " + s, api.ErrName, 5},
			{"1 " + s + " 007", api.ErrName, 3},
		})
	}
}

// P9.1: of several faults the leftmost one counts, the colon alone only if there is no other.
func TestFirstFaultFromTheLeft(t *testing.T) {
	long := strings.Repeat("a", 41)
	checkFaults(t, []faultCase{
		{"1000000000000001 007", api.ErrRange, 1},
		{"007 1000000000000001", api.ErrSyntax, 1},
		{`"" 007`, api.ErrName, 1},
		{`-0 ""`, api.ErrSyntax, 1},
		{long + " 1000000000000001", api.ErrName, 1},
		{"1000000000000001 " + long, api.ErrRange, 1},
		{long + "\t", api.ErrName, 1},
		{"a\t" + long, api.ErrSyntax, 2},
		{`"a" "" "`, api.ErrName, 5},
		{`"a"" "`, api.ErrName, 4},
		{`a"b" "c`, api.ErrSyntax, 6},
		{": -0", api.ErrSyntax, 3},
		{"  :  # alone", api.ErrSyntax, 3},
		{":#", api.ErrSyntax, 1},
		{": -", api.ErrSyntax, 3},
		{":" + long, api.ErrName, 2},
	})
}
