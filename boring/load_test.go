package boring_test

import (
	"fmt"
	"slices"
	"strings"
	"testing"

	"gangsaw/api"
	"gangsaw/boring"
	"gangsaw/parser"
	"gangsaw/printer"
)

// parse returns the only line of a source.
func parse(t *testing.T, rows ...string) api.Line {
	t.Helper()
	lines, fault := parser.Parse(strings.Join(rows, "\n"))
	if fault.Code != api.OK || len(lines) != 1 {
		t.Fatalf("Parse of %q: %d lines, %v", rows, len(lines), fault)
	}
	return lines[0]
}

// P14.5: borings with and without logs, up to the greatest numbers.
func TestLoad(t *testing.T) {
	for _, c := range []struct {
		rows []string
		want api.Boring
	}{
		{[]string{"boring b1 at 5 5:", "  sound 0 10", "  sound 10 20", "  flawed 25 30"}, b1()},
		{[]string{"boring b1 at -3 4:"}, api.Boring{Name: "b1", At: api.Point{X: -3, Y: 4}}},
		{[]string{"boring sound at -1000000 999999: # a", "", "  flawed -1000000 1000000"}, api.Boring{Name: "sound", At: api.Point{X: -1000000, Y: 999999}, Logs: []api.Log{flawed(-1000000, 1000000)}}},
	} {
		if got, fault := boring.Load(parse(t, c.rows...)); fault != (api.Fault{}) || !equal(got, c.want) {
			t.Errorf("Load of %q: %v, %v", c.rows, got, fault)
		}
	}
}

// checkFault checks the fault of a line, written as its code, line and column.
func checkFault(t *testing.T, l api.Line, want string) {
	t.Helper()
	b, fault := boring.Load(l)
	if got := fmt.Sprint(int(fault.Code), fault.Line, fault.Col); got != want {
		t.Errorf("fault %s instead of %s", got, want)
	}
	if fault.Code != api.OK && !equal(b, api.Boring{}) {
		t.Errorf("a boring beside a fault: %v", b)
	}
}

// P14.5: the heading; a fault of its form counts before its numbers, and these before whether it is one.
func TestFaultsOfHeadings(t *testing.T) {
	for _, c := range []struct{ row, want string }{
		{"boring b at 5 5:", "0 0 0"},
		{"borings b at 5 5:", "2 1 1"},
		{"\"boring\" b at 5 5:", "2 1 1"},
		{"boring:", "2 1 1"},
		{"boring B at 5 5:", "4 1 8"},
		{"boring 5 at 5 5:", "2 1 8"},
		{"boring b on 5 5:", "2 1 10"},
		{"boring b at:", "2 1 10"},
		{"boring b at x 5:", "2 1 13"},
		{"boring b at 5:", "2 1 13"},
		{"boring b at 5 y:", "2 1 15"},
		{"boring b at 5 5 5:", "2 1 17"},
		{"boring b at (5, 5):", "2 1 13"},
		{"boring b at 1000001 y:", "2 1 21"},
		{"boring b at 1000001 5 7:", "2 1 23"},
		{"boring b at 1000001 5:", "6 1 13"},
		{"boring b at -1000001 2000000:", "6 1 13"},
		{"boring b at 5 -1000001:", "6 1 15"},
		{"boring b at 5 1000001", "6 1 15"},
		{"boring b at 5 5", "2 1 1"},
		{"boring b at x 5", "2 1 13"},
		{"boring b at 1000000 5", "2 1 1"},
		{"boring b at 1000000 5:", "6 1 1"},
		{"boring b at 5 1000000:", "6 1 1"},
		{"boring b at -1000000 -1000000:", "0 0 0"},
	} {
		checkFault(t, parse(t, c.row), c.want)
	}
}

// P14.5: the kids, each as line 2, and the heading in front of them.
func TestFaultsOfKids(t *testing.T) {
	for _, c := range []struct{ rows, want string }{
		{"sound 0 10", "0 0 0"},
		{"unseen 0 10", "2 2 3"},
		{"Sound 0 10", "2 2 3"},
		{"\"sound\" 0 10", "2 2 3"},
		{"0 10", "2 2 3"},
		{"boring b at 5 5", "2 2 3"},
		{"sound 0 10:", "2 2 3"},
		{"flawed:", "2 2 3"},
		{"sound x:", "2 2 3"},
		{"sound", "2 2 3"},
		{"sound 0", "2 2 9"},
		{"sound x 10", "2 2 9"},
		{"flawed 0 x", "2 2 12"},
		{"flawed 0 10 20", "2 2 15"},
		{"sound 1000001 x", "2 2 17"},
		{"sound 1000001 5", "6 2 9"},
		{"sound 5 -1000001", "6 2 11"},
		{"sound 10 10", "1 1 1"},
		{"sound 10 5", "1 1 1"},
		{"sound 0 10|flawed 9 20", "11 1 1"},
		{"sound 5 10|sound 0 3", "11 1 1"},
		{"sound 5 10|sound 0 3|flawed x 3", "2 4 10"},
		{"sound 10 5|unseen 0 3|flawed x 3", "2 3 3"},
		{"sound 1000001 5|sound 0", "6 2 9"},
	} {
		rows := append([]string{"boring b at 5 5:"}, strings.Split("  "+strings.ReplaceAll(c.rows, "|", "|  "), "|")...)
		checkFault(t, parse(t, rows...), c.want)
		rows[0] = "boring b at 5 5 5:"
		checkFault(t, parse(t, rows...), "2 1 17")
		rows[0] = "boring b at 5 2000000:"
		checkFault(t, parse(t, rows...), "6 1 15")
	}
}

// P14.5: at last the errors of formed borings, in their order.
func TestFaultsOfBorings(t *testing.T) {
	rows := []string{"boring b at 5 5:"}
	for i := range api.MaxLogs + 1 {
		rows = append(rows, fmt.Sprintf("  sound %d %d", i, i+1))
	}
	checkFault(t, parse(t, rows[:api.MaxLogs+1]...), "0 0 0")
	checkFault(t, parse(t, rows...), "7 1 1")
	rows[5] = "  sound 9 9"
	checkFault(t, parse(t, rows...), "7 1 1")
	checkFault(t, parse(t, rows[:10]...), "1 1 1")
	checkFault(t, parse(t, "boring b at 1000000 5:", "  sound 9 9"), "1 1 1")
	checkFault(t, parse(t, "# a", "boring b at 1000000 5:", "  sound 3 9", "  sound 3 9"), "6 2 1")
}

// P14.5: lines that no source has, and their columns.
func TestFaultsOfOddLines(t *testing.T) {
	word := func(s string, at int) api.Token { return api.Token{Kind: api.TokWord, Text: s, At: at} }
	number := func(n int64, at int) api.Token { return api.Token{Kind: api.TokNumber, N: n, At: at} }
	heading := func(kids ...api.Line) api.Line {
		return api.Line{Tokens: []api.Token{word("boring", 4), word("b", 3), word("at", 2), number(5, 1), number(6, 0)}, Heading: true, Kids: kids, At: 7}
	}
	plain := heading(api.Line{})
	plain.Heading = false
	log := func(tokens ...api.Token) api.Line { return api.Line{Tokens: tokens, At: 9} }
	withKids := log(word("sound", 8), number(1, 9), number(2, 10))
	withKids.Kids = []api.Line{{}}
	for i, c := range []struct {
		l    api.Line
		want string
	}{
		{heading(), "0 0 0"},
		{plain, "2 7 4"},
		{api.Line{}, "2 0 1"},
		{api.Line{At: 3, Heading: true}, "2 3 1"},
		{heading(log()), "2 9 1"},
		{heading(withKids), "2 9 8"},
		{heading(log(api.Token{Kind: api.TokSign, Text: "sound", At: 8}, number(1, 9), number(2, 10))), "2 9 8"},
		{heading(log(word("sound", 8), number(1, 9), api.Token{At: 11})), "2 9 11"},
		{heading(log(word("sound", 8), number(-1<<63, 9), number(1<<63-1, 11))), "6 9 9"},
	} {
		t.Run(fmt.Sprint(i), func(t *testing.T) { checkFault(t, c.l, c.want) })
	}
	endless := heading(heading())
	endless.Kids[0] = endless
	checkFault(t, endless, "2 7 4")
}

// P14.5: the canonical line, with its kids in their order and all numbers of lines and columns 0.
func TestLine(t *testing.T) {
	for _, c := range []struct {
		b    api.Boring
		want []string
	}{
		{b1(), []string{"boring b1 at 5 5:", "  sound 0 10", "  sound 10 20", "  flawed 25 30"}},
		{at("sound"), []string{"boring sound at 5 5:"}},
		{api.Boring{Name: "c_1", At: api.Point{X: -7, Y: -api.MaxCoord}, Logs: []api.Log{flawed(-api.MaxCoord, -3)}}, []string{"boring c_1 at -7 -1000000:", "  flawed -1000000 -3"}},
	} {
		l, e := boring.Line(c.b)
		source, e2 := printer.Print([]api.Line{l})
		if e != api.OK || e2 != api.OK || source != strings.Join(c.want, "\n")+"\n" {
			t.Errorf("Line of %v: %q, %d", c.b, source, e)
		}
		for _, part := range append([]api.Line{l}, l.Kids...) {
			if part.At != 0 || slices.ContainsFunc(part.Tokens, func(t api.Token) bool { return t.At != 0 }) {
				t.Errorf("Line has numbers of lines or columns: %v", l)
			}
		}
		if got, fault := boring.Load(l); fault != (api.Fault{}) || !equal(got, c.b) {
			t.Errorf("Load of the line of %v: %v, %v", c.b, got, fault)
		}
	}
}
