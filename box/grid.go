package box

import (
	"iter"
	"slices"

	"gangsaw/api"
)

// grid is the division of space into cells along the sides of boxes. A cell is known by its place, the numbers of cells before it on each axis.
type grid struct {
	cuts  [3][]int  // the coordinates of the sides on each axis, increasing
	boxes []api.Box // the boxes, with places instead of points
}

// newGrid returns the grid of a list, divided also along the sides of further boxes.
func newGrid(list []api.Box, further ...api.Box) grid {
	var g grid
	for _, b := range slices.Concat(list, further) {
		from, to := coordinates(b.Min), coordinates(b.Max)
		for axis := range g.cuts {
			g.cuts[axis] = append(g.cuts[axis], from[axis], to[axis])
		}
	}
	for axis, cuts := range g.cuts {
		slices.Sort(cuts)
		g.cuts[axis] = slices.Compact(cuts)
	}
	for _, b := range list {
		g.boxes = append(g.boxes, api.Box{Min: g.place(b.Min), Max: g.place(b.Max)})
	}
	return g
}

// place returns the place of the cell whose least corner is the point.
func (g grid) place(p api.Vec) api.Vec {
	var at [3]int
	for axis, x := range coordinates(p) {
		at[axis], _ = slices.BinarySearch(g.cuts[axis], x)
	}
	return api.Vec{X: at[api.AxisX], Y: at[api.AxisY], Z: at[api.AxisZ]}
}

// corner returns the least corner of a cell.
func (g grid) corner(at api.Vec) api.Vec {
	return api.Vec{X: g.cuts[api.AxisX][at.X], Y: g.cuts[api.AxisY][at.Y], Z: g.cuts[api.AxisZ][at.Z]}
}

func (g grid) cell(at api.Vec) api.Box {
	return api.Box{Min: g.corner(at), Max: g.corner(sum(at, api.Vec{X: 1, Y: 1, Z: 1}))}
}

// rows produces the rows of cells along x, by z, then by y: the place of the first cell of each, and the numbers of boxes that contain its cells.
func (g grid) rows() iter.Seq2[api.Vec, []int] {
	return func(yield func(api.Vec, []int) bool) {
		counts := make([]int, len(g.cuts[api.AxisX]))
		var layer []api.Box
		for z := range len(g.cuts[api.AxisZ]) - 1 {
			layer = layer[:0]
			for _, b := range g.boxes {
				if b.Min.Z <= z && z < b.Max.Z {
					layer = append(layer, b)
				}
			}
			for y := range len(g.cuts[api.AxisY]) - 1 {
				count(counts, layer, y)
				if !yield(api.Vec{Y: y, Z: z}, counts[:len(counts)-1]) {
					return
				}
			}
		}
	}
}

// count counts the boxes of a layer that contain the cells of a row. There is one count more than there are cells, for the ends of boxes.
func count(counts []int, layer []api.Box, y int) {
	clear(counts)
	for _, b := range layer {
		if b.Min.Y <= y && y < b.Max.Y {
			counts[b.Min.X]++
			counts[b.Max.X]--
		}
	}
	n := 0
	for x, change := range counts {
		n += change
		counts[x] = n
	}
}

// filled returns the length of those cells of a row that lie in a box.
func (g grid) filled(counts []int) int {
	length := 0
	for x, n := range counts {
		if n > 0 {
			length += g.cuts[api.AxisX][x+1] - g.cuts[api.AxisX][x]
		}
	}
	return length
}
