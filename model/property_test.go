package model_test

import (
	"fmt"
	"math/rand"
	"slices"
	"testing"

	"gangsaw/api"
	"gangsaw/model"
)

// space is the length of the sides of the cube from 0 on in which random evidence lies.
const space = 7

// randomBox returns a box in another one.
func randomBox(r *rand.Rand, in api.Box) api.Box {
	ends := func(from, to int) (int, int) {
		lo := from + r.Intn(to-from)
		return lo, lo + 1 + r.Intn(to-lo)
	}
	var b api.Box
	b.Min.X, b.Max.X = ends(in.Min.X, in.Max.X)
	b.Min.Y, b.Max.Y = ends(in.Min.Y, in.Max.Y)
	b.Min.Z, b.Max.Z = ends(in.Min.Z, in.Max.Z)
	return b
}

// random returns evidence about boxes in the space.
func random(r *rand.Rand) []api.Evidence {
	var list []api.Evidence
	for range r.Intn(7) {
		e := api.Evidence{Source: fmt.Sprintf("s%d", r.Intn(4)), Box: randomBox(r, cube(0, space)), State: 1 + r.Intn(2)}
		list = append(list, e)
		if r.Intn(5) == 0 {
			list = append(list, e)
		}
	}
	return list
}

// cells returns the cells of a box by Z, then by Y, then by X.
func cells(b api.Box) []api.Vec {
	var list []api.Vec
	for z := b.Min.Z; z < b.Max.Z; z++ {
		for y := b.Min.Y; y < b.Max.Y; y++ {
			for x := b.Min.X; x < b.Max.X; x++ {
				list = append(list, api.Vec{X: x, Y: y, Z: z})
			}
		}
	}
	return list
}

// rock has the states of cells. A cell that is lacking is Unseen.
type rock map[api.Vec]int

// known returns the states that evidence gives to cells, one piece after the other.
func known(list []api.Evidence) rock {
	of := rock{}
	for _, e := range list {
		for _, cell := range cells(e.Box) {
			switch of[cell] {
			case api.Unseen:
				of[cell] = e.State
			case e.State:
			default:
				of[cell] = api.Clash
			}
		}
	}
	return of
}

// P15.2, P15.3: what random evidence says, cell by cell.
func TestEvidenceByCells(t *testing.T) {
	r := rand.New(rand.NewSource(15))
	for range 1500 {
		list := random(r)
		of := known(list)
		b := randomBox(r, cube(-1, space+1))
		var volumes [4]int64
		var first [4]*api.Vec
		for _, cell := range cells(b) {
			state := of[cell]
			if volumes[state]++; first[state] == nil {
				first[state] = &cell
			}
			if got, e := model.State(list, cell); got != state || e != api.OK {
				t.Fatalf("State of %v with %v: %d, %d", cell, list, got, e)
			}
		}
		checkVolumes(t, list, b, volumes)
		for state, cell := range first {
			got, e := model.First(list, b, state)
			if cell == nil && (got != api.Vec{} || e != api.ErrNone) || cell != nil && (got != *cell || e != api.OK) {
				t.Fatalf("First of %v and %d with %v: %v, %d", b, state, list, got, e)
			}
		}
		if t.Failed() {
			t.Fatalf("the evidence is %v", list)
		}
	}
}

// P15.2, P15.4: Sources, Clashes, Without and Useless by their definitions.
func TestListsByCells(t *testing.T) {
	r := rand.New(rand.NewSource(154))
	for range 1500 {
		list := random(r)
		checkSources(t, list, api.Vec{X: r.Intn(space), Y: r.Intn(space), Z: r.Intn(space)})
		checkClashes(t, list)
		var rest []api.Evidence
		for _, e := range list {
			if e.Source != "s1" {
				rest = append(rest, e)
			}
		}
		if got, e := model.Without(list, "s1"); !slices.Equal(got, rest) || e != api.OK {
			t.Fatalf("Without s1 of %v: %v, %d", list, got, e)
		}
		for i := range list {
			others := slices.Delete(slices.Clone(list), i, i+1)
			want := sameRock(known(list), known(others))
			if got, e := model.Useless(list, i); got != want || e != api.OK {
				t.Fatalf("Useless of %d in %v: %v, %d", i, list, got, e)
			}
		}
	}
}

// sameRock reports whether each cell has one state in both.
func sameRock(a, b rock) bool {
	for cell := range a {
		if a[cell] != b[cell] {
			return false
		}
	}
	return len(b) <= len(a)
}

func checkSources(t *testing.T, list []api.Evidence, cell api.Vec) {
	t.Helper()
	var want []string
	for _, e := range list {
		if slices.Contains(cells(e.Box), cell) {
			want = append(want, e.Source)
		}
	}
	slices.Sort(want)
	want = slices.Compact(want)
	if got, e := model.Sources(list, cell); !slices.Equal(got, want) || e != api.OK {
		t.Fatalf("Sources of %v in %v: %q, %d", cell, list, got, e)
	}
}

// checkClashes checks the pairs, and that there is one exactly if a cell has the state Clash.
func checkClashes(t *testing.T, list []api.Evidence) {
	t.Helper()
	var want [][2]int
	for i, a := range list {
		for k, b := range list {
			both := func(cell api.Vec) bool { return slices.Contains(cells(b.Box), cell) }
			if i < k && a.State != b.State && slices.ContainsFunc(cells(a.Box), both) {
				want = append(want, [2]int{i, k})
			}
		}
	}
	got, e := model.Clashes(list)
	if !slices.Equal(got, want) || e != api.OK {
		t.Fatalf("Clashes of %v: %v, %d", list, got, e)
	}
	_, e = model.First(list, cube(0, space), api.Clash)
	if (e == api.OK) != (len(got) > 0) {
		t.Fatalf("the clashes of %v are %v, and First: %d", list, got, e)
	}
}

// P15.5: the order and repetition of evidence do not matter to states and volumes.
func TestOrderAndRepetition(t *testing.T) {
	r := rand.New(rand.NewSource(1551))
	for range 1000 {
		list := random(r)
		other := slices.Clone(list)
		for _, e := range list {
			if r.Intn(2) == 0 {
				other = append(other, e)
			}
		}
		r.Shuffle(len(other), func(i, k int) { other[i], other[k] = other[k], other[i] })
		b := randomBox(r, cube(0, space))
		for _, state := range states {
			was, _ := model.Volume(list, b, state)
			if now, e := model.Volume(other, b, state); now != was || e != api.OK {
				t.Fatalf("Volume of %d in %v: %d of %v, but %d of %v", state, b, was, list, now, other)
			}
		}
		for _, cell := range cells(b) {
			was, _ := model.State(list, cell)
			if now, e := model.State(other, cell); now != was || e != api.OK {
				t.Fatalf("State of %v: %d of %v, but %d of %v", cell, was, list, now, other)
			}
		}
	}
}

// P15.5: further evidence only raises states; the volumes of the four states add up.
func TestFurtherEvidence(t *testing.T) {
	r := rand.New(rand.NewSource(1552))
	isRaised := func(was, now int) bool { return now == was || was == api.Unseen || now == api.Clash }
	for range 1000 {
		list := random(r)
		more := append(slices.Clone(list), random(r)...)
		for _, cell := range cells(cube(0, space)) {
			was, _ := model.State(list, cell)
			if now, e := model.State(more, cell); !isRaised(was, now) || e != api.OK {
				t.Fatalf("State of %v: %d of %v, but %d of %v", cell, was, list, now, more)
			}
		}
		b := randomBox(r, cube(-2, space+2))
		var sum int64
		for _, state := range states {
			volume, _ := model.Volume(more, b, state)
			sum += volume
		}
		if sum != int64(len(cells(b))) {
			t.Fatalf("the volumes of %v with %v add up to %d", b, more, sum)
		}
	}
}

// P15.5: the join is associative, commutative and idempotent.
func TestLawsOfJoin(t *testing.T) {
	join := func(a, b int) int {
		state, e := model.Join(a, b)
		if e != api.OK {
			t.Errorf("Join of %d and %d: %d", a, b, e)
		}
		return state
	}
	for _, a := range states {
		if join(a, a) != a {
			t.Errorf("Join of %d and itself: %d", a, join(a, a))
		}
		for _, b := range states {
			if join(a, b) != join(b, a) {
				t.Errorf("Join of %d and %d: %d, but %d the other way", a, b, join(a, b), join(b, a))
			}
			for _, c := range states {
				if join(join(a, b), c) != join(a, join(b, c)) {
					t.Errorf("Join of %d, %d and %d: %d, but %d", a, b, c, join(join(a, b), c), join(a, join(b, c)))
				}
			}
		}
	}
}

// P15.5: evidence that is given twice is useless, the one and the other time.
func TestTwiceIsUseless(t *testing.T) {
	r := rand.New(rand.NewSource(1553))
	for range 1000 {
		list := random(r)
		if len(list) == 0 {
			continue
		}
		i := r.Intn(len(list))
		again := list[i]
		again.Source = "again"
		list = append(list, again)
		for _, index := range []int{i, len(list) - 1} {
			if useless, e := model.Useless(list, index); !useless || e != api.OK {
				t.Fatalf("Useless of %d in %v: %v, %d", index, list, useless, e)
			}
		}
	}
}
