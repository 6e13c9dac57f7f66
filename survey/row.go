package survey

import (
	"slices"

	"gangsaw/api"
	"gangsaw/lexer"
)

// The words with which lines begin.
const (
	wordSurvey = "survey"
	wordPit    = "pit"
	wordOpen   = "open"
	wordBed    = "bed"
	wordJoint  = "joint"
	wordFlaw   = "flaw"
	wordCorner = "corner"
)

// sideWords returns the words for the sides, by their directions.
func sideWords() [4]string {
	return [4]string{api.PlusX: "east", api.MinusX: "west", api.PlusY: "north", api.MinusY: "south"}
}

// axisWords returns the words for the axes of joints.
func axisWords() [2]string {
	return [2]string{api.AxisX: "x", api.AxisY: "y"}
}

// row is a line that is read token by token. Behind the first fault nothing more is read, and what the methods return has no meaning.
type row struct {
	line  api.Line
	next  int
	fault api.Fault
}

// fail notes a fault at a token, unless there is one already.
func (r *row) fail(code api.Errno, token int) {
	if r.fault.Code == api.OK {
		r.fault = faultAt(code, r.line, token)
	}
}

// first reads the first token, and returns its text if it is a word.
func (r *row) first() string {
	if len(r.line.Tokens) == 0 {
		return ""
	}
	r.next = 1
	return wordOf(r.line.Tokens[0])
}

// take reads the next token, for which a check must find no error.
func (r *row) take(check func(api.Token) api.Errno) api.Token {
	if r.fault.Code != api.OK {
		return api.Token{}
	}
	if r.next == len(r.line.Tokens) {
		r.fail(api.ErrSyntax, r.next)
		return api.Token{}
	}
	t := r.line.Tokens[r.next]
	if e := check(t); e != api.OK {
		r.fail(e, r.next)
	}
	r.next++
	return t
}

// name reads a name.
func (r *row) name() string {
	t := r.take(func(t api.Token) api.Errno {
		switch {
		case t.Kind != api.TokWord:
			return api.ErrSyntax
		case !lexer.Name(t.Text):
			return api.ErrName
		}
		return api.OK
	})
	return t.Text
}

// number reads a coordinate.
func (r *row) number() int {
	t := r.take(func(t api.Token) api.Errno {
		switch {
		case t.Kind != api.TokNumber:
			return api.ErrSyntax
		case t.N < -api.MaxCoord || t.N > api.MaxCoord:
			return api.ErrRange
		}
		return api.OK
	})
	return int(t.N)
}

// corner reads the three coordinates of a corner of a box.
func (r *row) corner() api.Vec {
	return api.Vec{X: r.number(), Y: r.number(), Z: r.number()}
}

// axis reads the axis of a joint.
func (r *row) axis() int {
	words := axisWords()
	axis := 0
	r.take(func(t api.Token) api.Errno {
		axis = slices.Index(words[:], wordOf(t))
		if axis < 0 {
			return api.ErrSyntax
		}
		return api.OK
	})
	return axis
}

// sides reads one or more different sides, up to the end of the line.
func (r *row) sides() [4]bool {
	words := sideWords()
	var open [4]bool
	check := func(t api.Token) api.Errno {
		side := slices.Index(words[:], wordOf(t))
		switch {
		case side < 0:
			return api.ErrSyntax
		case open[side]:
			return api.ErrDuplicate
		}
		open[side] = true
		return api.OK
	}
	r.take(check)
	for r.fault.Code == api.OK && r.next < len(r.line.Tokens) {
		r.take(check)
	}
	return open
}

// end fails at the first token that is superfluous.
func (r *row) end() {
	if r.next < len(r.line.Tokens) {
		r.fail(api.ErrSyntax, r.next)
	}
}

// leaf ends the row of a line that is no heading and has no kids, and returns its fault.
func (r *row) leaf() api.Fault {
	r.end()
	if r.line.Heading || len(r.line.Kids) > 0 {
		r.fail(api.ErrSyntax, 0)
	}
	return r.fault
}

// wordOf returns the text of a word, or an empty one for other tokens.
func wordOf(t api.Token) string {
	if t.Kind != api.TokWord {
		return ""
	}
	return t.Text
}

// faultAt returns the fault of a code at a token of a line; where this is lacking, at the last one.
func faultAt(code api.Errno, l api.Line, token int) api.Fault {
	f := api.Fault{Code: code, Line: l.At, Col: 1}
	if last := len(l.Tokens) - 1; last >= 0 {
		f.Col = l.Tokens[min(token, last)].At
	}
	return f
}
