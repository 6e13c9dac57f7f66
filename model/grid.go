package model

import (
	"iter"
	"slices"

	"gangsaw/api"
	"gangsaw/box"
)

// grid is the division of a box along the sides of evidence: all cells of a part have one state. A part is known by its place, the numbers of parts before it on each axis.
type grid struct {
	cuts [3][]int       // the coordinates of sides on each axis, increasing
	list []api.Evidence // the evidence about the box, with places instead of points
}

// newGrid returns the division of a box along the sides of evidence within it.
func newGrid(list []api.Evidence, b api.Box) *grid {
	g := &grid{}
	g.cut(b)
	for _, e := range list {
		if common, code := box.Intersect(e.Box, b); code == api.OK {
			e.Box = common
			g.list = append(g.list, e)
			g.cut(common)
		}
	}
	for axis, cuts := range g.cuts {
		slices.Sort(cuts)
		g.cuts[axis] = slices.Compact(cuts)
	}
	for i, e := range g.list {
		g.list[i].Box = api.Box{Min: g.place(e.Box.Min), Max: g.place(e.Box.Max)}
	}
	return g
}

// cut adds the coordinates of the sides of a box.
func (g *grid) cut(b api.Box) {
	for axis, ends := range [3][2]int{{b.Min.X, b.Max.X}, {b.Min.Y, b.Max.Y}, {b.Min.Z, b.Max.Z}} {
		g.cuts[axis] = append(g.cuts[axis], ends[:]...)
	}
}

// place returns the place of the part whose least corner is a point.
func (g *grid) place(p api.Vec) api.Vec {
	number := func(axis, x int) int {
		n, _ := slices.BinarySearch(g.cuts[axis], x)
		return n
	}
	return api.Vec{X: number(api.AxisX, p.X), Y: number(api.AxisY, p.Y), Z: number(api.AxisZ, p.Z)}
}

// count returns how many parts there are along an axis.
func (g *grid) count(axis int) int { return len(g.cuts[axis]) - 1 }

// length returns how long the parts at a place on an axis are.
func (g *grid) length(axis, place int) int { return g.cuts[axis][place+1] - g.cuts[axis][place] }

// layer has the parts of a grid at one place on the z axis.
type layer struct {
	*grid
	z       int
	tallies []tally              // of the parts by y, then by x
	areas   [api.Clash + 1]int64 // of all parts with a state together, by states
}

// tally has the numbers of elements that say Sound and Flawed of a part, by these states.
type tally [api.Clash]int16

// layers produces the layers from the lowest one on. They are one value that changes, because most evidence about a layer is about the next one, too.
func (g *grid) layers() iter.Seq[*layer] {
	return func(yield func(*layer) bool) {
		l := layer{grid: g, tallies: make([]tally, g.count(api.AxisX)*g.count(api.AxisY))}
		l.areas[api.Unseen] = g.area()
		for z := range g.count(api.AxisZ) {
			l.z = z
			for _, e := range g.list {
				switch z {
				case e.Box.Min.Z:
					l.change(e, 1)
				case e.Box.Max.Z:
					l.change(e, -1)
				}
			}
			if !yield(&l) {
				return
			}
		}
	}
}

// area returns the area of each layer.
func (g *grid) area() int64 {
	size := func(axis int) int64 {
		cuts := g.cuts[axis]
		return int64(cuts[len(cuts)-1] - cuts[0])
	}
	return size(api.AxisX) * size(api.AxisY)
}

// change changes the number of elements with the State of one of them, of all parts in its Box.
func (l *layer) change(e api.Evidence, by int16) {
	for y := e.Box.Min.Y; y < e.Box.Max.Y; y++ {
		row := l.tallies[y*l.count(api.AxisX):]
		for x := e.Box.Min.X; x < e.Box.Max.X; x++ {
			before := row[x].state()
			row[x][e.State] += by
			if now := row[x].state(); now != before {
				area := int64(l.length(api.AxisX, x)) * int64(l.length(api.AxisY, y))
				l.areas[before] -= area
				l.areas[now] += area
			}
		}
	}
}

// state returns what the counted elements say together.
func (t tally) state() int {
	state := api.Unseen
	if t[api.Sound] > 0 {
		state = join(state, api.Sound)
	}
	if t[api.Flawed] > 0 {
		state = join(state, api.Flawed)
	}
	return state
}

// volume returns how many cells of the layer have a state.
func (l *layer) volume(state int) int64 {
	return l.areas[state] * int64(l.length(api.AxisZ, l.z))
}

// first returns the least cell of the layer that has a state, which there must be.
func (l *layer) first(state int) api.Vec {
	i := slices.IndexFunc(l.tallies, func(t tally) bool { return t.state() == state })
	width := l.count(api.AxisX)
	return api.Vec{X: l.cuts[api.AxisX][i%width], Y: l.cuts[api.AxisY][i/width], Z: l.cuts[api.AxisZ][l.z]}
}
