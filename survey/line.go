package survey

import "gangsaw/api"

// Line returns the canonical line of a survey.
func Line(s api.Survey) (api.Line, api.Errno) {
	if e := Check(s); e != api.OK {
		return api.Line{}, e
	}
	var kids []api.Line
	add := func(words []string, numbers ...int) *api.Line {
		kids = append(kids, written(words, numbers...))
		return &kids[len(kids)-1]
	}
	from, to := s.Pit.Min, s.Pit.Max
	add([]string{wordPit}, from.X, from.Y, from.Z, to.X, to.Y, to.Z)
	if s.Open != ([4]bool{}) {
		add(openWords(s))
	}
	for _, b := range s.Beds {
		add([]string{wordBed, b.Name}, b.Z)
	}
	for _, j := range s.Joints {
		add([]string{wordJoint, j.Name, axisWords()[j.Axis]}, j.At, j.Lo, j.Hi)
	}
	for _, f := range s.Flaws {
		l := add([]string{wordFlaw, f.Name}, f.Prism.Lo, f.Prism.Hi)
		l.Heading = true
		for _, c := range f.Prism.Base {
			l.Kids = append(l.Kids, written([]string{wordCorner}, c.X, c.Y))
		}
	}
	survey := written([]string{wordSurvey})
	survey.Heading, survey.Kids = true, kids
	return survey, api.OK
}

// openWords returns the words of the line of the open sides.
func openWords(s api.Survey) []string {
	words := []string{wordOpen}
	for side, open := range s.Open {
		if open {
			words = append(words, sideWords()[side])
		}
	}
	return words
}

// written returns the line of some words and the numbers behind them.
func written(words []string, numbers ...int) api.Line {
	var l api.Line
	for _, w := range words {
		l.Tokens = append(l.Tokens, api.Token{Kind: api.TokWord, Text: w})
	}
	for _, n := range numbers {
		l.Tokens = append(l.Tokens, api.Token{Kind: api.TokNumber, N: int64(n)})
	}
	return l
}
