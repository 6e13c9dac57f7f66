package boring

import (
	"gangsaw/api"
	"gangsaw/parser"
)

// The words of the lines.
const (
	wordBoring = "boring"
	wordAt     = "at"
	wordSound  = "sound"
	wordFlawed = "flawed"
)

// Load returns the boring of a line and its kids, or the first fault.
func Load(l api.Line) (api.Boring, api.Fault) {
	if fault := checkLine(l, wordBoring, "NAME", wordAt, "NUMBER", "NUMBER"); fault.Code != api.OK {
		return api.Boring{}, fault
	}
	if !l.Heading {
		return api.Boring{}, parser.Bad(api.ErrSyntax, l, 0)
	}
	b := api.Boring{Name: l.Tokens[1].Text, At: api.Point{X: int(l.Tokens[3].N), Y: int(l.Tokens[4].N)}}
	for _, kid := range l.Kids {
		log, fault := loadLog(kid)
		if fault.Code != api.OK {
			return api.Boring{}, fault
		}
		b.Logs = append(b.Logs, log)
	}
	if e := checkFormed(b); e != api.OK {
		return api.Boring{}, parser.Bad(e, l, 0)
	}
	return b, api.Fault{}
}

// loadLog returns the log of a kid, or the first fault.
func loadLog(kid api.Line) (api.Log, api.Fault) {
	states := map[string]int{wordSound: api.Sound, wordFlawed: api.Flawed}
	state, known := states[parser.Word(kid)]
	if !known || kid.Heading || len(kid.Kids) > 0 {
		return api.Log{}, parser.Bad(api.ErrSyntax, kid, 0)
	}
	if fault := checkLine(kid, parser.Word(kid), "NUMBER", "NUMBER"); fault.Code != api.OK {
		return api.Log{}, fault
	}
	return api.Log{Lo: int(kid.Tokens[1].N), Hi: int(kid.Tokens[2].N), State: state}, api.Fault{}
}

// checkLine returns the fault of a line that does not have a form, or else that of its first number out of range.
func checkLine(l api.Line, pattern ...string) api.Fault {
	if fault := parser.Shape(l, pattern); fault.Code != api.OK {
		return fault
	}
	for i, t := range l.Tokens {
		if t.Kind == api.TokNumber && (t.N < -api.MaxCoord || t.N > api.MaxCoord) {
			return parser.Bad(api.ErrRange, l, i)
		}
	}
	return api.Fault{}
}

// Line returns the canonical line of a boring.
func Line(b api.Boring) (api.Line, api.Errno) {
	if e := checkFormed(b); e != api.OK {
		return api.Line{}, e
	}
	l := api.Line{
		Tokens:  []api.Token{word(wordBoring), word(b.Name), word(wordAt), number(b.At.X), number(b.At.Y)},
		Heading: true,
	}
	for _, log := range b.Logs {
		state := wordSound
		if log.State == api.Flawed {
			state = wordFlawed
		}
		l.Kids = append(l.Kids, api.Line{Tokens: []api.Token{word(state), number(log.Lo), number(log.Hi)}})
	}
	return l, api.OK
}

func word(s string) api.Token { return api.Token{Kind: api.TokWord, Text: s} }

func number(n int) api.Token { return api.Token{Kind: api.TokNumber, N: int64(n)} }
