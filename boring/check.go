package boring

import (
	"slices"

	"gangsaw/api"
	"gangsaw/box"
	"gangsaw/lexer"
)

// Check returns OK for a boring in a pit, or the first error.
func Check(b api.Boring, pit api.Box) api.Errno {
	if e := box.Check(pit); e != api.OK {
		return e
	}
	return checkWithin(pit, api.ErrOutside, b)
}

// CheckAll returns OK for borings in a pit, or the first error.
func CheckAll(list []api.Boring, pit api.Box) api.Errno {
	if len(list) > api.MaxBorings {
		return api.ErrTooMany
	}
	if e := box.Check(pit); e != api.OK {
		return e
	}
	if e := checkWithin(pit, api.ErrOutside, list...); e != api.OK {
		return e
	}
	names := map[string]bool{}
	for _, b := range list {
		names[b.Name] = true
	}
	if len(names) < len(list) {
		return api.ErrDuplicate
	}
	return api.OK
}

// checkFormed returns the first error of a boring that has to be valid in some pit, and thus in the greatest one.
func checkFormed(b api.Boring) api.Errno {
	greatest := api.Box{
		Min: api.Vec{X: -api.MaxCoord, Y: -api.MaxCoord, Z: -api.MaxCoord},
		Max: api.Vec{X: api.MaxCoord, Y: api.MaxCoord, Z: api.MaxCoord},
	}
	return checkWithin(greatest, api.ErrRange, b)
}

// checkWithin returns the first error of borings in a box. Outside is the one for what does not lie within it.
func checkWithin(pit api.Box, outside api.Errno, list ...api.Boring) api.Errno {
	rules := []struct {
		code     api.Errno
		isBroken func(api.Boring) bool
	}{
		{api.ErrName, func(b api.Boring) bool { return !lexer.Name(b.Name) }},
		{api.ErrTooMany, func(b api.Boring) bool { return len(b.Logs) > api.MaxLogs }},
		{api.ErrInvalid, func(b api.Boring) bool { return hasEmpty(b.Logs) || hasOddState(b.Logs) }},
		{outside, func(b api.Boring) bool { return !isWithin(b, pit) }},
		{api.ErrOverlap, func(b api.Boring) bool { return hasOverlap(b.Logs) }},
	}
	for _, rule := range rules {
		if slices.ContainsFunc(list, rule.isBroken) {
			return rule.code
		}
	}
	return api.OK
}

// isState reports whether a state is one that logs have.
func isState(state int) bool { return state == api.Sound || state == api.Flawed }

// isAllowed reports whether the coordinates of a point are in range.
func isAllowed(p api.Point) bool {
	return max(p.X, p.Y) <= api.MaxCoord && min(p.X, p.Y) >= -api.MaxCoord
}

// isWithin reports whether the cells of a boring at its point, and its logs, lie in a box.
func isWithin(b api.Boring, pit api.Box) bool {
	if !box.Has(pit, api.Vec{X: b.At.X, Y: b.At.Y, Z: pit.Min.Z}) {
		return false
	}
	return !slices.ContainsFunc(b.Logs, func(l api.Log) bool { return l.Lo < pit.Min.Z || l.Hi > pit.Max.Z })
}

func hasEmpty(logs []api.Log) bool {
	return slices.ContainsFunc(logs, func(l api.Log) bool { return l.Lo >= l.Hi })
}

func hasOddState(logs []api.Log) bool {
	return slices.ContainsFunc(logs, func(l api.Log) bool { return !isState(l.State) })
}

// hasOverlap reports whether a log begins below the end of the one before it.
func hasOverlap(logs []api.Log) bool {
	for i := 1; i < len(logs); i++ {
		if logs[i].Lo < logs[i-1].Hi {
			return true
		}
	}
	return false
}
