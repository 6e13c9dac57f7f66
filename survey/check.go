package survey

import (
	"cmp"
	"slices"

	"gangsaw/api"
	"gangsaw/box"
	"gangsaw/lexer"
	"gangsaw/polygon"
)

// Check returns OK for a valid survey, or the first error.
func Check(s api.Survey) api.Errno {
	if len(s.Beds) > api.MaxBeds || len(s.Joints) > api.MaxJoints || len(s.Flaws) > api.MaxFlaws {
		return api.ErrTooMany
	}
	if e := box.Check(s.Pit); e != api.OK {
		return e
	}
	all := names(s)
	switch {
	case slices.ContainsFunc(all, func(name string) bool { return !lexer.Name(name) }):
		return api.ErrName
	case slices.ContainsFunc(s.Joints, isBadJoint) || slices.ContainsFunc(s.Flaws, isEmptyFlaw):
		return api.ErrInvalid
	}
	if e := checkBases(s.Flaws); e != api.OK {
		return e
	}
	switch {
	case !liesInPit(s):
		return api.ErrOutside
	case !isOrdered(s) || hasTwice(all):
		return api.ErrDuplicate
	}
	return api.OK
}

// names returns the names of all beds, joints and flaws.
func names(s api.Survey) []string {
	var list []string
	for _, b := range s.Beds {
		list = append(list, b.Name)
	}
	for _, j := range s.Joints {
		list = append(list, j.Name)
	}
	for _, f := range s.Flaws {
		list = append(list, f.Name)
	}
	return list
}

func isBadJoint(j api.Joint) bool {
	return j.Axis != api.AxisX && j.Axis != api.AxisY || j.Lo >= j.Hi
}

func isEmptyFlaw(f api.Flaw) bool { return f.Prism.Lo >= f.Prism.Hi }

// checkBases returns the first error of the bases of flaws as polygons, and only then asks whether they are convex.
func checkBases(flaws []api.Flaw) api.Errno {
	for _, f := range flaws {
		if e := polygon.Check(f.Prism.Base); e != api.OK {
			return e
		}
	}
	for _, f := range flaws {
		if convex, _ := polygon.Convex(f.Prism.Base); !convex {
			return api.ErrConflict
		}
	}
	return api.OK
}

// liesInPit reports whether all beds, joints and flaws, whose bases are polygons, lie within the pit with its ends.
func liesInPit(s api.Survey) bool {
	inside := func(from, to api.Vec) bool {
		return box.Inside(api.Box{Min: from, Max: to}, s.Pit)
	}
	for _, b := range s.Beds {
		from, to := s.Pit.Min, s.Pit.Max
		from.Z, to.Z = b.Z, b.Z
		if !inside(from, to) {
			return false
		}
	}
	for _, j := range s.Joints {
		from, to := s.Pit.Min, s.Pit.Max
		from.Z, to.Z = j.Lo, j.Hi
		if j.Axis == api.AxisX {
			from.X, to.X = j.At, j.At
		} else {
			from.Y, to.Y = j.At, j.At
		}
		if !inside(from, to) {
			return false
		}
	}
	for _, f := range s.Flaws {
		least, greatest, _ := polygon.Bounds(f.Prism.Base)
		if !inside(api.Vec{X: least.X, Y: least.Y, Z: f.Prism.Lo}, api.Vec{X: greatest.X, Y: greatest.Y, Z: f.Prism.Hi}) {
			return false
		}
	}
	return true
}

// isOrdered reports whether beds increase by z, joints and flaws by name.
func isOrdered(s api.Survey) bool {
	return increase(s.Beds, func(b api.Bed) int { return b.Z }) &&
		increase(s.Joints, func(j api.Joint) string { return j.Name }) &&
		increase(s.Flaws, func(f api.Flaw) string { return f.Name })
}

// increase reports whether the keys of a list increase strictly.
func increase[T any, K cmp.Ordered](list []T, key func(T) K) bool {
	for i := 1; i < len(list); i++ {
		if key(list[i-1]) >= key(list[i]) {
			return false
		}
	}
	return true
}

// hasTwice reports whether a text occurs twice in a list.
func hasTwice(list []string) bool {
	return len(slices.Compact(slices.Sorted(slices.Values(list)))) < len(list)
}
