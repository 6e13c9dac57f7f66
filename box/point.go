package box

import "gangsaw/api"

// coordinates returns the coordinates of a point in the order of the axes.
func coordinates(p api.Vec) [3]int { return [3]int{p.X, p.Y, p.Z} }

func sum(p, q api.Vec) api.Vec { return api.Vec{X: p.X + q.X, Y: p.Y + q.Y, Z: p.Z + q.Z} }

// least returns the lesser coordinate on each axis.
func least(p, q api.Vec) api.Vec {
	return api.Vec{X: min(p.X, q.X), Y: min(p.Y, q.Y), Z: min(p.Z, q.Z)}
}

// greatest returns the greater coordinate on each axis.
func greatest(p, q api.Vec) api.Vec {
	return api.Vec{X: max(p.X, q.X), Y: max(p.Y, q.Y), Z: max(p.Z, q.Z)}
}

// less reports whether p is less than q in each coordinate.
func less(p, q api.Vec) bool { return p.X < q.X && p.Y < q.Y && p.Z < q.Z }

// atMost reports whether p is at most q in each coordinate.
func atMost(p, q api.Vec) bool { return p.X <= q.X && p.Y <= q.Y && p.Z <= q.Z }
