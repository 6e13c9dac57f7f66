package sound_test

import (
	"cmp"
	"fmt"
	"math/rand"
	"slices"
	"testing"

	"gangsaw/api"
	"gangsaw/model"
	"gangsaw/polygon"
	"gangsaw/prism"
	"gangsaw/sound"
)

// size is the length of the sides of the pits of random surveys.
const size = 7

// random returns a survey of a small pit.
func random(r *rand.Rand) api.Survey {
	s := api.Survey{Pit: cube(size)}
	names := r.Perm(30)
	name := func() string {
		n := names[0]
		names = names[1:]
		return fmt.Sprintf("n%d", n)
	}
	for z := range size + 1 {
		if r.Intn(5) == 0 {
			s.Beds = append(s.Beds, api.Bed{Name: name(), Z: z})
		}
	}
	for range r.Intn(4) {
		lo := r.Intn(size)
		s.Joints = append(s.Joints, api.Joint{Name: name(), Axis: r.Intn(2), At: r.Intn(size + 1), Lo: lo, Hi: lo + 1 + r.Intn(size-lo)})
	}
	for range r.Intn(3) {
		var points []api.Point
		for range 3 {
			points = append(points, api.Point{X: r.Intn(size + 1), Y: r.Intn(size + 1)})
		}
		base, e := polygon.Hull(points)
		if e != api.OK {
			continue
		}
		lo := r.Intn(size)
		s.Flaws = append(s.Flaws, flaw(name(), lo, lo+1+r.Intn(size-lo), base...))
	}
	slices.SortFunc(s.Joints, func(a, b api.Joint) int { return cmp.Compare(a.Name, b.Name) })
	slices.SortFunc(s.Flaws, func(a, b api.Flaw) int { return cmp.Compare(a.Name, b.Name) })
	return s
}

// randomBox returns a box in another one.
func randomBox(r *rand.Rand, in api.Box) api.Box {
	ends := func(from, to int) (int, int) {
		lo := from + r.Intn(to-from)
		return lo, lo + 1 + r.Intn(to-lo)
	}
	var b api.Box
	b.Min.X, b.Max.X = ends(in.Min.X, in.Max.X)
	b.Min.Y, b.Max.Y = ends(in.Min.Y, in.Max.Y)
	b.Min.Z, b.Max.Z = ends(in.Min.Z, in.Max.Z)
	return b
}

// randomEvidence returns evidence of which most is sound, and often all of the pit.
func randomEvidence(r *rand.Rand) []api.Evidence {
	var list []api.Evidence
	if r.Intn(3) > 0 {
		list = append(list, isSound(cube(size)))
	}
	for range r.Intn(5) {
		list = append(list, isSound(randomBox(r, boxOf(-1, -1, -1, size+1, size+1, size+1))))
	}
	for range max(0, r.Intn(4)-1) {
		b := randomBox(r, cube(size))
		b.Max = api.Vec{X: b.Min.X + 1 + r.Intn(2), Y: b.Min.Y + 1, Z: b.Min.Z + 1}
		list = append(list, isFlawed(b))
	}
	r.Shuffle(len(list), func(i, k int) { list[i], list[k] = list[k], list[i] })
	return list
}

// cells returns the cells of a box by Z, then by Y, then by X.
func cells(b api.Box) []api.Vec {
	var list []api.Vec
	for z := b.Min.Z; z < b.Max.Z; z++ {
		for y := b.Min.Y; y < b.Max.Y; y++ {
			for x := b.Min.X; x < b.Max.X; x++ {
				list = append(list, api.Vec{X: x, Y: y, Z: z})
			}
		}
	}
	return list
}

// meets reports whether a joint passes through a box.
func meets(j api.Joint, b api.Box) bool {
	lo, hi := b.Min.X, b.Max.X
	if j.Axis == api.AxisY {
		lo, hi = b.Min.Y, b.Max.Y
	}
	return lo < j.At && j.At < hi && max(j.Lo, b.Min.Z) < min(j.Hi, b.Max.Z)
}

// witnesses returns all witnesses of a box in the pit, in order.
func witnesses(s api.Survey, list []api.Evidence, b api.Box) []sound.Witness {
	var all []sound.Witness
	for _, p := range cells(b) {
		if state, _ := model.State(list, p); state != api.Sound {
			all = append(all, cell(p.X, p.Y, p.Z, state))
		}
	}
	n := len(all)
	for _, f := range s.Flaws {
		if hit, _ := prism.Overlaps(f.Prism, b); hit {
			all = append(all, named(sound.Flaw, f.Name))
		}
	}
	for _, bed := range s.Beds {
		if b.Min.Z < bed.Z && bed.Z < b.Max.Z {
			all = append(all, named(sound.Bed, bed.Name))
		}
	}
	for _, j := range s.Joints {
		if meets(j, b) {
			all = append(all, named(sound.Joint, j.Name))
		}
	}
	slices.SortFunc(all[n:], func(v, w sound.Witness) int {
		return cmp.Or(cmp.Compare(v.Kind, w.Kind), cmp.Compare(v.Name, w.Name))
	})
	return all
}

// P16.1, P16.2: the witnesses of random boxes are those of the definition, and no others.
func TestWitnesses(t *testing.T) {
	r := rand.New(rand.NewSource(16))
	kinds := map[int]int{}
	for range 3000 {
		s, list := random(r), randomEvidence(r)
		b := randomBox(r, s.Pit)
		all := witnesses(s, list, b)
		first := sound.Witness{}
		if len(all) > 0 {
			first = all[0]
		}
		kinds[first.Kind]++
		check(t, s, list, b, first)
		for _, w := range candidates(s, r) {
			want := slices.Contains(all, w) || len(all) == 0 && w == sound.Witness{}
			if got := sound.Verify(s, list, b, w); got != want {
				t.Errorf("Verify of %v: %v", w, got)
			}
		}
		if t.Failed() {
			t.Fatalf("the survey is %v, the evidence %v, the box %v", s, list, b)
		}
	}
	for kind := sound.None; kind <= sound.Joint; kind++ {
		if kinds[kind] < 50 {
			t.Errorf("only %d first witnesses of the kind %d", kinds[kind], kind)
		}
	}
}

// candidates returns what might be a witness: all that has a name of the survey, and random cells.
func candidates(s api.Survey, r *rand.Rand) []sound.Witness {
	list := []sound.Witness{{}, named(sound.Beyond, "")}
	var names []string
	for _, bed := range s.Beds {
		names = append(names, bed.Name)
	}
	for _, j := range s.Joints {
		names = append(names, j.Name)
	}
	for _, f := range s.Flaws {
		names = append(names, f.Name)
	}
	for _, name := range names {
		for kind := sound.None; kind <= sound.Beyond; kind++ {
			list = append(list, named(kind, name))
		}
	}
	for range 20 {
		list = append(list, cell(r.Intn(size+2)-1, r.Intn(size+2)-1, r.Intn(size+2)-1, r.Intn(4)))
	}
	return list
}

// P16.3, P16.5: a range is the longest one that is sound, and a box that is longer by one cell is not sound.
func TestRanges(t *testing.T) {
	r := rand.New(rand.NewSource(163))
	found := 0
	for range 3000 {
		s, list := random(r), randomEvidence(r)
		b := randomBox(r, s.Pit)
		axis := r.Intn(3)
		lo := []int{b.Min.X, b.Min.Y, b.Min.Z}[axis]
		hi := []int{b.Max.X, b.Max.Y, b.Max.Z}[axis]
		length := 0
		for n := 1; n <= hi-lo; n++ {
			part := b
			*[]*int{&part.Max.X, &part.Max.Y, &part.Max.Z}[axis] = lo + n
			if len(witnesses(s, list, part)) > 0 {
				break
			}
			length = n
		}
		want, code := api.Interval{Lo: lo, Hi: lo + length - 1}, api.OK
		if length == 0 {
			want, code = api.Interval{}, api.ErrNone
		} else if length < hi-lo {
			found++
		}
		if got, e := sound.Range(s, list, b, axis); got != want || e != code {
			t.Fatalf("Range of %v along %d in %v with %v: %v, %d", b, axis, s, list, got, e)
		}
	}
	if found < 100 {
		t.Errorf("only %d ranges that end within their boxes", found)
	}
}

// parts returns the parts of a box, which is divided wherever something passes through it, by Z, then by Y, then by X.
func parts(s api.Survey, b api.Box) []api.Box {
	isCut := [3]map[int]bool{{}, {}, {}}
	for _, bed := range s.Beds {
		isCut[api.AxisZ][bed.Z] = b.Min.Z < bed.Z && bed.Z < b.Max.Z
	}
	for _, j := range s.Joints {
		isCut[j.Axis][j.At] = isCut[j.Axis][j.At] || meets(j, b)
	}
	// A part begins at a cell that is the first one behind a cut or a side on each axis, and ends at the next ones.
	begins := func(axis, x, from int) bool { return x == from || isCut[axis][x] }
	end := func(axis, x, to int) int {
		for x++; x < to && !isCut[axis][x]; x++ {
		}
		return x
	}
	var list []api.Box
	for _, p := range cells(b) {
		if begins(api.AxisX, p.X, b.Min.X) && begins(api.AxisY, p.Y, b.Min.Y) && begins(api.AxisZ, p.Z, b.Min.Z) {
			list = append(list, api.Box{Min: p, Max: api.Vec{X: end(api.AxisX, p.X, b.Max.X), Y: end(api.AxisY, p.Y, b.Max.Y), Z: end(api.AxisZ, p.Z, b.Max.Z)}})
		}
	}
	return list
}

// P16.4: Pieces and Unseen by their definitions.
func TestPiecesByParts(t *testing.T) {
	r := rand.New(rand.NewSource(164))
	found := 0
	for range 3000 {
		s, list := random(r), randomEvidence(r)
		b := randomBox(r, s.Pit)
		var want []api.Box
		for _, part := range parts(s, b) {
			if len(witnesses(s, list, part)) == 0 {
				want = append(want, part)
			}
		}
		found += len(want)
		if got, e := sound.Pieces(s, list, b); !slices.Equal(got, want) || e != api.OK {
			t.Fatalf("Pieces of %v in %v with %v: %v, %d", b, s, list, got, e)
		}
		b = randomBox(r, boxOf(-2, -2, -2, size+2, size+2, size+2))
		unseen := int64(0)
		for _, p := range cells(b) {
			if state, _ := model.State(list, p); state == api.Unseen {
				unseen++
			}
		}
		if got, e := sound.Unseen(s, list, b); got != unseen || e != api.OK {
			t.Fatalf("Unseen of %v with %v: %d, %d", b, list, got, e)
		}
	}
	if found < 2000 {
		t.Errorf("only %d parts are sound", found)
	}
}

// P16.5: every box inside a sound one is sound; a sound box has no unseen cells, and its only part is the box; the parts that are sound are disjoint.
func TestSoundBoxes(t *testing.T) {
	r := rand.New(rand.NewSource(1651))
	found := 0
	for range 3000 {
		s, list := random(r), randomEvidence(r)
		b := randomBox(r, s.Pit)
		pieces, e := sound.Pieces(s, list, b)
		if e != api.OK {
			t.Fatalf("Pieces: %d", e)
		}
		covered := map[api.Vec]bool{}
		for _, piece := range pieces {
			for _, p := range cells(piece) {
				if covered[p] {
					t.Fatalf("the pieces %v overlap", pieces)
				}
				covered[p] = true
			}
			checkSoundBox(t, s, list, piece, r)
		}
		if is, _ := sound.Is(s, list, b); is {
			found++
			checkSoundBox(t, s, list, b, r)
		}
	}
	if found < 300 {
		t.Errorf("only %d boxes are sound", found)
	}
}

func checkSoundBox(t *testing.T, s api.Survey, list []api.Evidence, b api.Box, r *rand.Rand) {
	t.Helper()
	check(t, s, list, randomBox(r, b), sound.Witness{})
	if n, e := sound.Unseen(s, list, b); n != 0 || e != api.OK {
		t.Errorf("Unseen of the sound box %v: %d, %d", b, n, e)
	}
	if pieces, e := sound.Pieces(s, list, b); !slices.Equal(pieces, []api.Box{b}) || e != api.OK {
		t.Errorf("Pieces of the sound box %v: %v, %d", b, pieces, e)
	}
	if t.Failed() {
		t.Fatalf("the survey is %v, the evidence %v", s, list)
	}
}

// P16.5: evidence makes a box sound only if it fills unseen cells, and never one that has a flaw.
func TestFurtherEvidence(t *testing.T) {
	r := rand.New(rand.NewSource(1652))
	made := 0
	for range 4000 {
		s, list := random(r), randomEvidence(r)
		b := randomBox(r, s.Pit)
		was, _ := sound.Is(s, list, b)
		unseen, _ := sound.Unseen(s, list, b)
		more := append(slices.Clone(list), isSound(randomBox(r, s.Pit)), isSound(b))
		now, e := sound.Is(s, more, b)
		if e != api.OK || was && !now || now && !was && unseen == 0 {
			t.Fatalf("Is of %v in %v with %v: %v, with %v: %v, %d", b, s, list, was, more, now, e)
		}
		if now && !was {
			made++
		}
		for _, f := range s.Flaws {
			if hit, _ := prism.Overlaps(f.Prism, b); hit && now {
				t.Fatalf("Is of %v with the flaw %v", b, f)
			}
		}
	}
	if made < 100 {
		t.Errorf("only %d boxes are made sound", made)
	}
}
