package survey

import (
	"cmp"
	"slices"

	"gangsaw/api"
)

// Load returns the survey of a line with its kids, or the first fault.
func Load(l api.Line) (api.Survey, api.Fault) {
	if len(l.Tokens) != 1 || wordOf(l.Tokens[0]) != wordSurvey || !l.Heading {
		return api.Survey{}, faultAt(api.ErrSyntax, l, 0)
	}
	var s api.Survey
	given := map[string]bool{}
	for _, kid := range l.Kids {
		if fault := readKid(&s, kid, given); fault.Code != api.OK {
			return api.Survey{}, fault
		}
	}
	if !given[wordPit] {
		return api.Survey{}, faultAt(api.ErrNone, l, 0)
	}
	arrange(&s)
	if e := Check(s); e != api.OK {
		return api.Survey{}, faultAt(e, l, 0)
	}
	return s, api.Fault{}
}

// readKid adds what a kid of a survey's line says to the survey, or returns the first fault. The words that are given in kids before it are noted.
func readKid(s *api.Survey, kid api.Line, given map[string]bool) api.Fault {
	r := row{line: kid}
	word := r.first()
	if given[word] && (word == wordPit || word == wordOpen) {
		r.fail(api.ErrDuplicate, 0)
	}
	given[word] = true
	switch word {
	case wordPit:
		s.Pit = api.Box{Min: r.corner(), Max: r.corner()}
	case wordOpen:
		s.Open = r.sides()
	case wordBed:
		s.Beds = append(s.Beds, api.Bed{Name: r.name(), Z: r.number()})
	case wordJoint:
		s.Joints = append(s.Joints, api.Joint{Name: r.name(), Axis: r.axis(), At: r.number(), Lo: r.number(), Hi: r.number()})
	case wordFlaw:
		f, fault := readFlaw(r)
		s.Flaws = append(s.Flaws, f)
		return fault
	default:
		r.fail(api.ErrSyntax, 0)
	}
	return r.leaf()
}

// readFlaw returns the flaw of a row with its kids, or the first fault.
func readFlaw(r row) (api.Flaw, api.Fault) {
	f := api.Flaw{Name: r.name(), Prism: api.Prism{Lo: r.number(), Hi: r.number()}}
	r.end()
	if !r.line.Heading {
		r.fail(api.ErrSyntax, 0)
	}
	if r.fault.Code != api.OK {
		return api.Flaw{}, r.fault
	}
	for _, kid := range r.line.Kids {
		c := row{line: kid}
		if c.first() != wordCorner {
			c.fail(api.ErrSyntax, 0)
		}
		f.Prism.Base = append(f.Prism.Base, api.Point{X: c.number(), Y: c.number()})
		if fault := c.leaf(); fault.Code != api.OK {
			return api.Flaw{}, fault
		}
	}
	return f, api.Fault{}
}

// arrange brings beds, joints and flaws into their orders.
func arrange(s *api.Survey) {
	slices.SortStableFunc(s.Beds, func(a, b api.Bed) int { return cmp.Or(cmp.Compare(a.Z, b.Z), cmp.Compare(a.Name, b.Name)) })
	slices.SortStableFunc(s.Joints, func(a, b api.Joint) int { return cmp.Compare(a.Name, b.Name) })
	slices.SortStableFunc(s.Flaws, func(a, b api.Flaw) int { return cmp.Compare(a.Name, b.Name) })
}
