package sound

import (
	"slices"

	"gangsaw/api"
	"gangsaw/box"
	"gangsaw/model"
	"gangsaw/survey"
)

// soundParts returns the parts of a box in the pit that are sound, in order. There may be so many parts that the flaws are looked up for each column of them, not for each part.
func soundParts(s api.Survey, list []api.Evidence, b api.Box) []api.Box {
	cuts := cutsOf(s, b)
	var parts []api.Box
	for _, row := range divide(b, api.AxisY, cuts) {
		for _, column := range divide(row, api.AxisX, cuts) {
			flaws, known := flawsIn(s, column), evidenceAbout(list, column)
			for _, part := range divide(column, api.AxisZ, cuts) {
				// A flaw that overlaps a column overlaps those parts of it with which it has z in common.
				reaches := func(p api.Prism) bool { return p.Lo < part.Max.Z && part.Min.Z < p.Hi }
				if slices.ContainsFunc(flaws, reaches) {
					continue
				}
				if all, _ := model.All(evidenceAbout(known, part), part, api.Sound); all {
					parts = append(parts, part)
				}
			}
		}
	}
	slices.SortFunc(parts, func(p, q api.Box) int { return compare(p.Min, q.Min) })
	return parts
}

// cutsOf returns the coordinates of the beds and joints that pass through a box, by their axes, increasing.
func cutsOf(s api.Survey, b api.Box) [3][]int {
	through, _ := survey.Through(s, b)
	var cuts [3][]int
	cut := func(name string, axis, at int) {
		if slices.Contains(through, name) {
			cuts[axis] = append(cuts[axis], at)
		}
	}
	for _, bed := range s.Beds {
		cut(bed.Name, api.AxisZ, bed.Z)
	}
	for _, j := range s.Joints {
		cut(j.Name, j.Axis, j.At)
	}
	for axis := range cuts {
		slices.Sort(cuts[axis])
		cuts[axis] = slices.Compact(cuts[axis])
	}
	return cuts
}

// divide returns the parts of a box between the cuts on an axis, in order.
func divide(b api.Box, axis int, cuts [3][]int) []api.Box {
	from, to := ends(&b, axis)
	lo, hi := *from, *to
	var parts []api.Box
	for _, at := range cuts[axis] {
		parts = append(parts, between(b, axis, lo, at))
		lo = at
	}
	return append(parts, between(b, axis, lo, hi))
}

// flawsIn returns the prisms of the flaws that overlap a box in the pit.
func flawsIn(s api.Survey, b api.Box) []api.Prism {
	overlapping := names(s, b, Flaw)
	var list []api.Prism
	for _, f := range s.Flaws {
		if slices.Contains(overlapping, f.Name) {
			list = append(list, f.Prism)
		}
	}
	return list
}

// evidenceAbout returns those elements of a list that say something of a box, but none that only says again what one before it says of the whole box.
func evidenceAbout(list []api.Evidence, b api.Box) []api.Evidence {
	var about []api.Evidence
	var isSaid [api.Clash]bool
	for _, e := range list {
		if isSaid[e.State] || !box.Overlap(e.Box, b) {
			continue
		}
		isSaid[e.State] = box.Inside(b, e.Box)
		about = append(about, e)
	}
	return about
}

// ends returns the ends of a box on an axis, to be read and changed.
func ends(b *api.Box, axis int) (from, to *int) {
	switch axis {
	case api.AxisX:
		return &b.Min.X, &b.Max.X
	case api.AxisY:
		return &b.Min.Y, &b.Max.Y
	}
	return &b.Min.Z, &b.Max.Z
}

// between returns a box with other ends on an axis.
func between(b api.Box, axis, lo, hi int) api.Box {
	from, to := ends(&b, axis)
	*from, *to = lo, hi
	return b
}
