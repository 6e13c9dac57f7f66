package survey_test

import (
	"fmt"
	"slices"
	"strings"
	"testing"

	"gangsaw/api"
	"gangsaw/parser"
	"gangsaw/printer"
	"gangsaw/survey"
)

// parse returns the only line of a source, which may be indented as it suits the test.
func parse(t *testing.T, rows ...string) api.Line {
	t.Helper()
	lines, fault := parser.Parse(strings.Join(rows, "\n"))
	if fault.Code != api.OK || len(lines) != 1 {
		t.Fatalf("Parse of %q: %d lines, %v", rows, len(lines), fault)
	}
	return lines[0]
}

// withPit returns the line of a survey with the pit from 0 to 100, and the rows behind it, from line 3 on.
func withPit(t *testing.T, rows ...string) api.Line {
	t.Helper()
	return parse(t, append([]string{"survey:", "  pit 0 0 0 100 100 100"}, rows...)...)
}

// P13.4: kids of all words, in any order.
func TestLoad(t *testing.T) {
	for _, rows := range [][]string{
		{"  open west north", "  bed upper_c 20", "  bed m 50", "  bed a 100", "  joint k1 x 30 0 60", "  joint k2 x 30 50 70", "  joint k3 y 30 10 20", "  joint k4 x 30 80 100", "  joint k5 x 100 0 100",
			"  flaw f 15 40:", "    corner 10 10", "    corner 20 10", "    corner 20 20", "    corner 10 20", "  flaw g 0 100:", "    corner 60 60", "    corner 80 60", "    corner 60 80", "  flaw z 0 16:", "    corner 15 15", "    corner 25 15", "    corner 25 25", "    corner 15 25"},
		{"  flaw z 0 16:", "    corner 15 15", "    corner 25 15", "    corner 25 25", "    corner 15 25", "  joint k4 x 30 80 100", "  joint k5 x 100 0 100", "  bed a 100", "  flaw g 0 100:", "    corner 60 60", "    corner 80 60", "    corner 60 80", "  joint k3 y 30 10 20",
			"  open north west # in any order", "", "  bed m 50", "  joint k1 x 30 0 60", "  flaw f 15 40:", "    corner 10 10", "    corner 20 10", "    corner 20 20", "    corner 10 20", "  bed upper_c 20", "  joint k2 x 30 50 70"},
	} {
		s, fault := survey.Load(withPit(t, rows...))
		if fault != (api.Fault{}) || !survey.Equal(s, rich()) {
			t.Errorf("Load: %v, %v", s, fault)
		}
	}
	s, fault := survey.Load(parse(t, "survey:", "  bed b 0", "  pit -1000000 -1 -2 1000000 3 4"))
	if fault != (api.Fault{}) || s.Pit != boxOf(-api.MaxCoord, -1, -2, api.MaxCoord, 3, 4) || s.Open != [4]bool{} || len(s.Beds) != 1 {
		t.Errorf("Load: %v, %v", s, fault)
	}
	for side, word := range []string{"east", "west", "north", "south"} {
		s, fault := survey.Load(withPit(t, "  open "+word))
		want := [4]bool{}
		want[side] = true
		if fault != (api.Fault{}) || s.Open != want {
			t.Errorf("Load with the side %s: %v, %v", word, s.Open, fault)
		}
	}
}

// P13.4: the words of a survey's line.
func TestFaultsOfTheFirstLine(t *testing.T) {
	pit := "  pit 0 0 0 100 100 100"
	for _, c := range []struct {
		rows []string
		want string
	}{
		{[]string{"survey"}, "2 1 1"},
		{[]string{"", "survey"}, "2 2 1"},
		{[]string{"Survey:", pit}, "2 1 1"},
		{[]string{"surveys:", pit}, "2 1 1"},
		{[]string{"survey survey:", pit}, "2 1 1"},
		{[]string{"survey a:", "  pit"}, "2 1 1"},
		{[]string{"\"survey\":", pit}, "2 1 1"},
		{[]string{"5:", pit}, "2 1 1"},
		{[]string{"survey:"}, "9 1 1"},
		{[]string{"", "# a", "survey:", "  bed b 5", "  open east"}, "9 3 1"},
	} {
		checkFault(t, parse(t, c.rows...), c.want)
	}
}

// checkFault checks the fault of a line, written as its code, line and column.
func checkFault(t *testing.T, l api.Line, want string) {
	t.Helper()
	s, fault := survey.Load(l)
	if got := fmt.Sprint(int(fault.Code), fault.Line, fault.Col); got != want {
		t.Errorf("fault %s instead of %s", got, want)
	}
	if fault.Code != api.OK && !survey.Equal(s, api.Survey{}) {
		t.Errorf("a survey beside a fault: %v", s)
	}
}

// P13.4: the kids, each as line 3: the third example of the chapter, and each form.
func TestFaultsOfKids(t *testing.T) {
	for _, c := range []struct{ row, want string }{
		{"joint j z 30 0 60", "2 3 11"},
		{"joint j x 30 0 600", "12 1 1"},
		{"beds b 5", "2 3 3"},
		{"survey", "2 3 3"},
		{"corner 1 2", "2 3 3"},
		{"Bed b 5", "2 3 3"},
		{"\"bed\" b 5", "2 3 3"},
		{"5 bed b", "2 3 3"},
		{"( bed b 5", "2 3 3"},
		{"pit 0 0 0 100 100 100", "5 3 3"},
		{"pit", "5 3 3"},
		{"bed", "2 3 3"},
		{"bed b", "2 3 7"},
		{"bed b 5 6", "2 3 11"},
		{"bed 5 b", "2 3 7"},
		{"bed \"b\" 5", "2 3 7"},
		{"bed = 5", "2 3 7"},
		{"bed B 5", "4 3 7"},
		{"bed B x y", "4 3 7"},
		{"bed b x", "2 3 9"},
		{"bed b \"5\"", "2 3 9"},
		{"bed b 1000001", "6 3 9"},
		{"bed b -1000001", "6 3 9"},
		{"bed b 1000001 7", "6 3 9"},
		{"bed b 1000000000000000", "6 3 9"},
		{"bed b 1000000", "12 1 1"},
		{"bed b -1000000", "12 1 1"},
		{"bed " + strings.Repeat("b", 25) + " 5", "4 3 7"},
		{"joint j", "2 3 9"},
		{"joint J x 30 0 60", "4 3 9"},
		{"joint j 5 30 0 60", "2 3 11"},
		{"joint j X 30 0 60", "2 3 11"},
		{"joint j \"x\" 30 0 60", "2 3 11"},
		{"joint j x", "2 3 11"},
		{"joint j x 30", "2 3 13"},
		{"joint j x 30 0", "2 3 16"},
		{"joint j x y 0 60", "2 3 13"},
		{"joint j x 30 a 60", "2 3 16"},
		{"joint j x 30 0 a", "2 3 18"},
		{"joint j x 2000000 a", "6 3 13"},
		{"joint j x a 2000000", "2 3 13"},
		{"joint j x 30 2000000", "6 3 16"},
		{"joint j y 30 0 2000000", "6 3 18"},
		{"joint j y 30 0 60 70", "2 3 21"},
		{"joint j y 30 60 0", "1 1 1"},
		{"open", "2 3 3"},
		{"open up", "2 3 8"},
		{"open 5", "2 3 8"},
		{"open \"east\"", "2 3 8"},
		{"open east, west", "2 3 12"},
		{"open east west east", "5 3 18"},
		{"open east east up", "5 3 13"},
		{"open east up east", "2 3 13"},
		{"open east west north south", "0 0 0"},
		{"open south north west east south", "5 3 30"},
		{"flaw", "2 3 3"},
		{"flaw f", "2 3 8"},
		{"flaw F 0 5", "4 3 8"},
		{"flaw f 0", "2 3 10"},
		{"flaw f 0 5", "2 3 3"},
		{"flaw f 0 2000000", "6 3 12"},
		{"flaw f x 5", "2 3 10"},
		{"flaw f 0 5 6", "2 3 14"},
		{"flaw f 0 5 6:", "2 3 14"},
		{"flaw f 0 5:", "1 1 1"},
		{"bed b 5:", "2 3 3"},
		{"bed b:", "2 3 7"},
		{"bed b 5 6:", "2 3 11"},
		{"joint j x 30 0 60:", "2 3 3"},
		{"open east:", "2 3 3"},
		{"open east east:", "5 3 13"},
	} {
		checkFault(t, withPit(t, "  "+c.row), c.want)
	}
	for _, c := range []struct{ row, want string }{
		{"pit", "2 2 3"},
		{"pit 0 0 0 100 100", "2 2 17"},
		{"pit 0 0 0 100 100 100 100", "2 2 25"},
		{"pit 0 0 0 100 100 100:", "2 2 3"},
		{"pit 0 0 0 100 100 b", "2 2 21"},
		{"pit 0 0 0 100 1000001 100", "6 2 17"},
		{"pit 0 0 -1000001 100 100 100", "6 2 11"},
		{"pit a 0 -1000001 100 100 100", "2 2 7"},
		{"pit 0 0 0 100 0 100", "1 1 1"},
	} {
		checkFault(t, parse(t, "survey:", "  "+c.row), c.want)
	}
}

// P13.4: the corners of flaws, and that each kid is looked at before the next one.
func TestFaultsOfSeveralKids(t *testing.T) {
	for _, c := range []struct {
		rows []string
		want string
	}{
		{[]string{"  flaw f 0 5:", "    corner 0 0", "    corner 5 0", "    corner 0 5"}, "0 0 0"},
		{[]string{"  flaw f 0 5:", "    corner 0 0", "    corner 5 0"}, "1 1 1"},
		{[]string{"  flaw f 0 5:", "    corner 0 0", "    corner 0 5", "    corner 5 0"}, "10 1 1"},
		{[]string{"  flaw f 0 5:", "    corners 0 0"}, "2 4 5"},
		{[]string{"  flaw f 0 5:", "    bed b 0"}, "2 4 5"},
		{[]string{"  flaw f 0 5:", "    5 0"}, "2 4 5"},
		{[]string{"  flaw f 0 5:", "    corner"}, "2 4 5"},
		{[]string{"  flaw f 0 5:", "    corner 0"}, "2 4 12"},
		{[]string{"  flaw f 0 5:", "    corner a 0"}, "2 4 12"},
		{[]string{"  flaw f 0 5:", "    corner 0 a"}, "2 4 14"},
		{[]string{"  flaw f 0 5:", "    corner 0 0 0"}, "2 4 16"},
		{[]string{"  flaw f 0 5:", "    corner 0 0:"}, "2 4 5"},
		{[]string{"  flaw f 0 5:", "    corner 0 0 0:"}, "2 4 16"},
		{[]string{"  flaw f 0 5:", "    corner 1000001 a"}, "6 4 12"},
		{[]string{"  flaw f 0 5:", "    corner 0 -1000001"}, "6 4 14"},
		{[]string{"  flaw f 0 5:", "    corner 0 0", "    corner 0 a", "    corner b 0"}, "2 5 14"},
		{[]string{"  flaw f 0 5:", "    corner 0 a", "  bed 5"}, "2 4 14"},
		{[]string{"  flaw f 0 5 6:", "    corner 0 a"}, "2 3 14"},
		{[]string{"  bed b 5:", "    corner 0 a"}, "2 3 3"},
		{[]string{"  bed 5", "  flaw f 0 5:", "    corner 0 a"}, "2 3 7"},
		{[]string{"  bed b 5", "  open east", "  bed c x"}, "2 5 9"},
		{[]string{"  open east", "  bed b 5", "  open west"}, "5 5 3"},
		{[]string{"  open east", "  open"}, "5 4 3"},
		{[]string{"  bed b 5", "  bed b 5"}, "5 1 1"},
		{[]string{"  bed b 5", "  bed c 5"}, "5 1 1"},
		{[]string{"  bed b 5", "  joint b x 30 0 60"}, "5 1 1"},
		{[]string{"  bed b 500", "  pit 0 0 0 1 1 1"}, "5 4 3"},
	} {
		checkFault(t, withPit(t, c.rows...), c.want)
	}
	var rows []string
	for i := range api.MaxBeds + 1 {
		rows = append(rows, fmt.Sprintf("  bed b%d %d", i, i))
	}
	checkFault(t, withPit(t, rows...), "7 1 1")
	rows = []string{"  flaw f 0 5:"}
	for i := range api.MaxCorners + 1 {
		rows = append(rows, fmt.Sprintf("    corner %d %d", i, i*i%50))
	}
	checkFault(t, withPit(t, rows...), "7 1 1")
}

// P13.4: lines that no source has, and their columns.
func TestFaultsOfOddLines(t *testing.T) {
	pit := parse(t, "survey:", "  pit 0 0 0 100 100 100").Kids[0]
	heading := func(kids ...api.Line) api.Line {
		return api.Line{Tokens: []api.Token{{Kind: api.TokWord, Text: "survey", At: 7}}, Heading: true, Kids: kids, At: 3}
	}
	word := func(s string, at int) api.Token { return api.Token{Kind: api.TokWord, Text: s, At: at} }
	number := func(n int64, at int) api.Token { return api.Token{Kind: api.TokNumber, N: n, At: at} }
	bed := []api.Token{word("bed", 9), word("b", 2), number(5, 4)}
	corner := func(kids ...api.Line) api.Line {
		return api.Line{Tokens: []api.Token{word("corner", 1), number(1, 2), number(2, 3)}, Kids: kids, At: 12}
	}
	flaw := func(isHeading bool, kids ...api.Line) api.Line {
		return api.Line{Tokens: []api.Token{word("flaw", 5), word("f", 6), number(1, 7), number(2, 8)}, Heading: isHeading, Kids: kids, At: 11}
	}
	plain := heading(pit)
	plain.Heading = false
	sign := heading(pit)
	sign.Tokens = []api.Token{{Kind: api.TokSign, Text: "survey", At: 7}}
	for i, c := range []struct {
		l    api.Line
		want string
	}{
		{heading(pit), "0 0 0"},
		{heading(), "9 3 7"},
		{plain, "2 3 7"},
		{sign, "2 3 7"},
		{api.Line{At: 4, Heading: true, Kids: []api.Line{pit}}, "2 4 1"},
		{api.Line{}, "2 0 1"},
		{heading(pit, api.Line{At: 6}), "2 6 1"},
		{heading(api.Line{At: -6, Heading: true}, pit), "2 -6 1"},
		{heading(pit, api.Line{Tokens: bed, At: 8, Kids: []api.Line{{}}}), "2 8 9"},
		{heading(pit, api.Line{Tokens: bed[:2], At: 8, Kids: []api.Line{{}}}), "2 8 2"},
		{heading(pit, api.Line{Tokens: []api.Token{{Kind: api.TokSign, Text: "bed", At: 5}, bed[1], bed[2]}}), "2 0 5"},
		{heading(pit, api.Line{Tokens: []api.Token{word("open", 1), {Kind: api.TokSign, Text: "east", At: 6}}}), "2 0 6"},
		{heading(pit, api.Line{Tokens: []api.Token{bed[0], word("", 7), bed[2]}}), "4 0 7"},
		{heading(pit, api.Line{Tokens: []api.Token{bed[0], bed[1], {At: 3}}}), "2 0 3"},
		{heading(pit, api.Line{Tokens: []api.Token{bed[0], bed[1], number(-1<<63, 3)}}), "6 0 3"},
		{heading(pit, flaw(true)), "1 3 7"},
		{heading(pit, flaw(false, corner())), "2 11 5"},
		{heading(pit, flaw(true, corner(), corner(corner()))), "2 12 1"},
		{heading(pit, flaw(true, api.Line{At: 13})), "2 13 1"},
	} {
		t.Run(fmt.Sprint(i), func(t *testing.T) { checkFault(t, c.l, c.want) })
	}
}

// P1: Load ends for lines that contain themselves.
func TestLoadOfEndlessLines(t *testing.T) {
	endless := withPit(t, "  flaw f 0 5:", "    corner 0 0")
	endless.Kids[1].Kids = endless.Kids
	checkFault(t, endless, "2 2 3")
	endless = withPit(t)
	endless.Kids = []api.Line{endless, endless}
	endless.Kids[1] = endless
	checkFault(t, endless, "2 1 1")
}

// P13.4: the canonical line, with its kids in their order and all numbers of lines and columns 0.
func TestLine(t *testing.T) {
	for _, c := range []struct {
		s    api.Survey
		want []string
	}{
		{example(), []string{"survey:", "  pit 0 0 0 100 100 100", "  bed b 50", "  joint j x 30 0 60"}},
		{api.Survey{Pit: boxOf(-3, -2, -1, 4, 5, 6), Open: [4]bool{true, true, true, true}}, []string{"survey:", "  pit -3 -2 -1 4 5 6", "  open east west north south"}},
		{api.Survey{Pit: cube(1), Open: [4]bool{api.MinusY: true}}, []string{"survey:", "  pit 0 0 0 1 1 1", "  open south"}},
		{rich(), []string{"survey:", "  pit 0 0 0 100 100 100", "  open west north", "  bed upper_c 20", "  bed m 50", "  bed a 100",
			"  joint k1 x 30 0 60", "  joint k2 x 30 50 70", "  joint k3 y 30 10 20", "  joint k4 x 30 80 100", "  joint k5 x 100 0 100",
			"  flaw f 15 40:", "    corner 10 10", "    corner 20 10", "    corner 20 20", "    corner 10 20",
			"  flaw g 0 100:", "    corner 60 60", "    corner 80 60", "    corner 60 80",
			"  flaw z 0 16:", "    corner 15 15", "    corner 25 15", "    corner 25 25", "    corner 15 25"}},
	} {
		l, e := survey.Line(c.s)
		source, e2 := printer.Print([]api.Line{l})
		if e != api.OK || e2 != api.OK || source != strings.Join(c.want, "\n")+"\n" {
			t.Errorf("Line: %q, %d", source, e)
		}
		if !hasNoNumbers(l) {
			t.Errorf("Line has numbers of lines or columns: %v", l)
		}
	}
}

// hasNoNumbers reports whether all numbers of lines and columns of a tree are 0.
func hasNoNumbers(l api.Line) bool {
	return l.At == 0 &&
		!slices.ContainsFunc(l.Tokens, func(t api.Token) bool { return t.At != 0 }) &&
		!slices.ContainsFunc(l.Kids, func(k api.Line) bool { return !hasNoNumbers(k) })
}
