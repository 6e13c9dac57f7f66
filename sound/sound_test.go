package sound_test

import (
	"fmt"
	"math"
	"slices"
	"testing"

	"gangsaw/api"
	"gangsaw/sound"
	"gangsaw/survey"
)

const most = api.MaxCoord

// boxOf returns the box with these ends.
func boxOf(x, y, z, toX, toY, toZ int) api.Box {
	return api.Box{Min: api.Vec{X: x, Y: y, Z: z}, Max: api.Vec{X: toX, Y: toY, Z: toZ}}
}

// to returns the box from the point 0 on.
func to(x, y, z int) api.Box { return boxOf(0, 0, 0, x, y, z) }

// cube returns the box from 0 to n in each coordinate.
func cube(n int) api.Box { return to(n, n, n) }

// flaw returns a flaw over corners.
func flaw(name string, lo, hi int, corners ...api.Point) api.Flaw {
	return api.Flaw{Name: name, Prism: api.Prism{Base: corners, Lo: lo, Hi: hi}}
}

// square returns a flaw over a rectangle.
func square(name string, b api.Box) api.Flaw {
	x, y, toX, toY := b.Min.X, b.Min.Y, b.Max.X, b.Max.Y
	return flaw(name, b.Min.Z, b.Max.Z, api.Point{X: x, Y: y}, api.Point{X: toX, Y: y}, api.Point{X: toX, Y: toY}, api.Point{X: x, Y: toY})
}

func isSound(b api.Box) api.Evidence {
	return api.Evidence{Source: "s", Box: b, State: api.Sound}
}

func isFlawed(b api.Box) api.Evidence {
	return api.Evidence{Source: "f", Box: b, State: api.Flawed}
}

// pit returns the survey of the chapter's examples.
func pit() api.Survey {
	return api.Survey{
		Pit:   cube(10),
		Beds:  []api.Bed{{Name: "b", Z: 4}},
		Flaws: []api.Flaw{flaw("f", 0, 10, api.Point{X: 8}, api.Point{X: 10}, api.Point{X: 10, Y: 2})},
	}
}

// faces returns the evidence of the chapter's examples.
func faces() []api.Evidence { return []api.Evidence{isSound(to(10, 10, 8))} }

// check checks the first witness of a box, and whether the box is sound.
func check(t *testing.T, s api.Survey, list []api.Evidence, b api.Box, want sound.Witness) {
	t.Helper()
	if e := survey.Check(s); e != api.OK {
		t.Errorf("the survey %v is not valid: %d", s, e)
	}
	w, e := sound.Find(s, list, b)
	if w != want || e != api.OK {
		t.Errorf("Find of %v: %v, %d", b, w, e)
	}
	if is, e := sound.Is(s, list, b); is != (want == sound.Witness{}) || e != api.OK {
		t.Errorf("Is of %v: %v, %d", b, is, e)
	}
	if !sound.Verify(s, list, b, want) {
		t.Errorf("Verify of %v refuses %v", b, want)
	}
}

func cell(x, y, z, state int) sound.Witness {
	return sound.Witness{Kind: sound.Cell, Cell: api.Vec{X: x, Y: y, Z: z}, State: state}
}

func named(kind int, name string) sound.Witness { return sound.Witness{Kind: kind, Name: name} }

// P16.1: the first and the second example of the chapter, and boxes beside them.
func TestExamples(t *testing.T) {
	for _, c := range []struct {
		b    api.Box
		want sound.Witness
	}{
		{to(5, 5, 4), sound.Witness{}},
		{to(5, 5, 5), named(sound.Bed, "b")},
		{boxOf(0, 0, 4, 5, 5, 9), cell(0, 0, 8, api.Unseen)},
		{boxOf(5, 0, 0, 10, 5, 4), named(sound.Flaw, "f")},
		{boxOf(5, 0, 0, 8, 5, 4), sound.Witness{}},
		{boxOf(5, 2, 0, 10, 5, 4), sound.Witness{}},
		{boxOf(5, 1, 0, 10, 5, 4), named(sound.Flaw, "f")},
		{boxOf(5, 1, 0, 9, 5, 4), sound.Witness{}},
		{boxOf(0, 0, 4, 5, 5, 8), sound.Witness{}},
		{cube(10), cell(0, 0, 8, api.Unseen)},
		{to(10, 10, 8), named(sound.Flaw, "f")},
		{to(10, 10, 11), named(sound.Beyond, "")},
		{boxOf(9, 9, 9, 10, 10, 10), cell(9, 9, 9, api.Unseen)},
	} {
		check(t, pit(), faces(), c.b, c.want)
	}
}

// rich returns a survey with several beds, joints and flaws, whose names are not in the order of their places.
func rich() api.Survey {
	return api.Survey{
		Pit:  cube(100),
		Beds: []api.Bed{{Name: "ba", Z: 0}, {Name: "bz", Z: 30}, {Name: "bc", Z: 60}, {Name: "bb", Z: 90}},
		Joints: []api.Joint{
			{Name: "a_joint", Axis: api.AxisX, At: 80, Lo: 50, Hi: 100},
			{Name: "j1", Axis: api.AxisX, At: 20, Lo: 0, Hi: 10},
			{Name: "j2", Axis: api.AxisY, At: 40, Lo: 0, Hi: 100},
			{Name: "j3", Axis: api.AxisX, At: 10, Lo: 0, Hi: 100},
			{Name: "z_joint", Axis: api.AxisX, At: 20, Lo: 90, Hi: 100},
		},
		Flaws: []api.Flaw{
			square("fa", boxOf(90, 90, 0, 100, 100, 100)),
			square("fb", boxOf(50, 50, 10, 60, 60, 70)),
			square("fc", boxOf(52, 52, 65, 70, 70, 80)),
		},
	}
}

// P16.1: cells come before flaws, flaws before beds, beds before joints; of several, the least name counts.
func TestOrderOfWitnesses(t *testing.T) {
	all := []api.Evidence{isSound(cube(100))}
	for _, c := range []struct {
		list []api.Evidence
		b    api.Box
		want sound.Witness
	}{
		{all, cube(100), named(sound.Flaw, "fa")},
		{all, cube(90), named(sound.Flaw, "fb")},
		{all, boxOf(0, 0, 70, 100, 90, 100), named(sound.Flaw, "fc")},
		{all, to(50, 50, 100), named(sound.Bed, "bb")},
		{all, to(50, 50, 90), named(sound.Bed, "bc")},
		{all, to(50, 50, 60), named(sound.Bed, "bz")},
		{all, to(50, 50, 30), named(sound.Joint, "j1")},
		{all, boxOf(0, 0, 10, 50, 50, 30), named(sound.Joint, "j2")},
		{all, boxOf(0, 40, 10, 50, 50, 30), named(sound.Joint, "j3")},
		{all, boxOf(10, 40, 10, 50, 50, 30), sound.Witness{}},
		{all, boxOf(70, 0, 60, 90, 50, 90), named(sound.Joint, "a_joint")},
		{all, boxOf(70, 0, 30, 90, 40, 50), sound.Witness{}},
		{nil, cube(100), cell(0, 0, 0, api.Unseen)},
		{append(all, isFlawed(boxOf(7, 8, 99, 8, 9, 100))), cube(100), cell(7, 8, 99, api.Clash)},
		{append(all, isFlawed(boxOf(7, 8, 99, 8, 9, 100))), cube(99), named(sound.Flaw, "fa")},
		{[]api.Evidence{isFlawed(cube(100))}, cube(100), cell(0, 0, 0, api.Flawed)},
	} {
		check(t, rich(), c.list, c.b, c.want)
	}
}

// P16.1: of several cells, the least one by Z, then by Y, then by X counts, whatever its state.
func TestOrderOfCells(t *testing.T) {
	at := func(x, y, z int) api.Box { return boxOf(x, y, z, x+1, y+1, z+1) }
	unseen := []api.Evidence{isSound(boxOf(0, 0, 0, 9, 9, 5)), isSound(boxOf(0, 0, 5, 9, 4, 9)), isSound(boxOf(1, 4, 5, 9, 9, 9))}
	flawed := []api.Evidence{isSound(boxOf(0, 0, 0, 9, 9, 9)), isFlawed(at(8, 3, 5))}
	for _, c := range []struct {
		list []api.Evidence
		want sound.Witness
	}{
		{unseen, cell(0, 4, 5, api.Unseen)},
		{append(slices.Clone(unseen), isFlawed(at(8, 3, 5))), cell(8, 3, 5, api.Clash)},
		{append(slices.Clone(unseen), isFlawed(at(0, 4, 5))), cell(0, 4, 5, api.Flawed)},
		{append(slices.Clone(unseen), isFlawed(at(0, 5, 5))), cell(0, 4, 5, api.Unseen)},
		{append(slices.Clone(unseen), isFlawed(at(8, 8, 4))), cell(8, 8, 4, api.Clash)},
		{append(slices.Clone(unseen), isFlawed(at(1, 4, 5))), cell(0, 4, 5, api.Unseen)},
		{flawed, cell(8, 3, 5, api.Clash)},
	} {
		check(t, api.Survey{Pit: cube(9)}, c.list, cube(9), c.want)
	}
}

// P16.1: a box that is not within the pit has no other witness.
func TestBeyond(t *testing.T) {
	beyond := named(sound.Beyond, "")
	for _, b := range []api.Box{
		boxOf(-1, 0, 0, 5, 5, 5), boxOf(0, -1, 0, 5, 5, 5), boxOf(0, 0, -1, 5, 5, 5),
		to(101, 5, 5), to(5, 101, 5), to(5, 5, 101),
		boxOf(100, 0, 0, 101, 1, 1), boxOf(-most, -most, -most, most, most, most),
	} {
		check(t, rich(), nil, b, beyond)
		check(t, rich(), []api.Evidence{isSound(boxOf(-most, -most, -most, most, most, most))}, b, beyond)
		for _, w := range []sound.Witness{
			{}, cell(b.Min.X, b.Min.Y, b.Min.Z, api.Unseen), named(sound.Bed, "bz"), named(sound.Joint, "j3"), named(sound.Flaw, "fa"),
			named(sound.Beyond, "x"), {Kind: sound.Beyond, State: 1}, {Kind: sound.Beyond, Cell: api.Vec{Z: 1}},
		} {
			if sound.Verify(rich(), nil, b, w) {
				t.Errorf("Verify of %v accepts %v", b, w)
			}
		}
	}
}

// P16.2: what is accepted for a box with all kinds of witnesses, and what is refused.
func TestVerify(t *testing.T) {
	s := rich()
	list := []api.Evidence{isSound(cube(50)), isFlawed(boxOf(40, 40, 40, 60, 60, 60))}
	b := boxOf(5, 5, 5, 85, 85, 85)
	for _, c := range []struct {
		w    sound.Witness
		want bool
	}{
		{cell(84, 5, 5, api.Unseen), true},
		{cell(45, 45, 45, api.Clash), true},
		{cell(55, 55, 55, api.Flawed), true},
		{named(sound.Flaw, "fb"), true},
		{named(sound.Flaw, "fc"), true},
		{named(sound.Bed, "bz"), true},
		{named(sound.Bed, "bc"), true},
		{named(sound.Joint, "j1"), true},
		{named(sound.Joint, "j2"), true},
		{named(sound.Joint, "a_joint"), true},
		{sound.Witness{}, false},
		{named(sound.Beyond, ""), false},
		{cell(30, 30, 30, api.Sound), false},
		{cell(30, 30, 30, api.Unseen), false},
		{cell(84, 5, 5, api.Flawed), false},
		{cell(85, 5, 5, api.Unseen), false},
		{cell(84, 5, 4, api.Unseen), false},
		{cell(math.MinInt, math.MaxInt, math.MinInt, api.Unseen), false},
		{cell(45, 45, 45, api.Flawed), false},
		{cell(45, 45, 45, 7), false},
		{sound.Witness{Kind: sound.Cell, Cell: api.Vec{X: 84, Y: 5, Z: 5}, Name: "x"}, false},
		{named(sound.Flaw, "fa"), false},
		{named(sound.Flaw, "bz"), false},
		{named(sound.Flaw, "j1"), false},
		{named(sound.Flaw, ""), false},
		{named(sound.Bed, "ba"), false},
		{named(sound.Bed, "bb"), false},
		{named(sound.Bed, "j1"), false},
		{named(sound.Bed, "fb"), false},
		{named(sound.Bed, ""), false},
		{named(sound.Joint, "z_joint"), false},
		{named(sound.Joint, "bz"), false},
		{named(sound.Joint, "j4"), false},
		{sound.Witness{Kind: sound.Joint, Name: "j1", State: 1}, false},
		{sound.Witness{Kind: sound.Bed, Name: "bz", Cell: api.Vec{X: 1}}, false},
		{sound.Witness{Kind: sound.Flaw, Name: "fb", State: -1}, false},
		{named(-1, ""), false},
		{named(6, "fb"), false},
		{named(math.MinInt, "bz"), false},
		{named(math.MaxInt, "j1"), false},
	} {
		if got := sound.Verify(s, list, b, c.w); got != c.want {
			t.Errorf("Verify of %v: %v", c.w, got)
		}
	}
}

// P16.2: a sound box has the zero witness and no other one.
func TestVerifyOfSoundBoxes(t *testing.T) {
	b := to(5, 5, 4)
	for _, w := range []sound.Witness{
		{Name: "b"}, {State: 1}, {Cell: api.Vec{Y: 1}}, cell(0, 0, 0, api.Unseen), cell(0, 0, 0, api.Sound), cell(0, 0, 8, api.Unseen),
		named(sound.Flaw, "f"), named(sound.Bed, "b"), named(sound.Joint, "j"), named(sound.Beyond, ""), named(6, ""),
	} {
		if sound.Verify(pit(), faces(), b, w) {
			t.Errorf("Verify accepts %v", w)
		}
	}
	if !sound.Verify(pit(), faces(), b, sound.Witness{}) {
		t.Error("Verify refuses the zero witness")
	}
}

// P16.3: the second example of the chapter, and ranges that end at cells, flaws, beds and joints.
func TestRange(t *testing.T) {
	all := []api.Evidence{isSound(cube(100))}
	for _, c := range []struct {
		s      api.Survey
		list   []api.Evidence
		b      api.Box
		axis   int
		lo, hi int
	}{
		{pit(), faces(), boxOf(5, 0, 0, 10, 5, 4), api.AxisX, 5, 7},
		{pit(), faces(), boxOf(5, 1, 0, 10, 5, 4), api.AxisX, 5, 8},
		{pit(), faces(), boxOf(5, 2, 0, 10, 5, 4), api.AxisX, 5, 9},
		{pit(), faces(), to(5, 5, 9), api.AxisZ, 0, 3},
		{pit(), faces(), boxOf(0, 0, 4, 5, 5, 10), api.AxisZ, 4, 7},
		{pit(), faces(), boxOf(0, 0, 4, 5, 5, 7), api.AxisZ, 4, 6},
		{pit(), faces(), boxOf(0, 0, 7, 5, 5, 10), api.AxisZ, 7, 7},
		{rich(), all, boxOf(10, 40, 0, 100, 50, 10), api.AxisX, 10, 19},
		{rich(), all, boxOf(10, 40, 10, 100, 50, 30), api.AxisX, 10, 99},
		{rich(), all, boxOf(10, 40, 60, 100, 50, 90), api.AxisX, 10, 79},
		{rich(), all, boxOf(10, 0, 10, 20, 100, 30), api.AxisY, 0, 39},
		{rich(), all, boxOf(55, 40, 10, 58, 100, 30), api.AxisY, 40, 49},
		{rich(), all, boxOf(40, 40, 10, 58, 50, 100), api.AxisZ, 10, 29},
		{rich(), append(all, isFlawed(boxOf(15, 45, 15, 16, 46, 16))), boxOf(10, 40, 10, 100, 50, 30), api.AxisX, 10, 14},
		{rich(), append(all, isFlawed(boxOf(15, 45, 15, 16, 46, 16))), boxOf(10, 40, 10, 100, 50, 30), api.AxisY, 40, 44},
		{rich(), append(all, isFlawed(boxOf(15, 45, 15, 16, 46, 16))), boxOf(10, 40, 10, 100, 50, 30), api.AxisZ, 10, 14},
	} {
		if got, e := sound.Range(c.s, c.list, c.b, c.axis); got != (api.Interval{Lo: c.lo, Hi: c.hi}) || e != api.OK {
			t.Errorf("Range of %v along %d: %v, %d", c.b, c.axis, got, e)
		}
	}
}

// P16.3: ranges in the greatest pit.
func TestGreatRanges(t *testing.T) {
	whole := boxOf(-most, -most, -most, most, most, most)
	s := api.Survey{Pit: whole}
	for axis := range 3 {
		if got, e := sound.Range(s, []api.Evidence{isSound(whole)}, whole, axis); got != (api.Interval{Lo: -most, Hi: most - 1}) || e != api.OK {
			t.Errorf("Range along %d: %v, %d", axis, got, e)
		}
		first := isSound(boxOf(-most, -most, -most, most, most, most))
		*[...]*int{&first.Box.Max.X, &first.Box.Max.Y, &first.Box.Max.Z}[axis] = 1 - most
		if got, e := sound.Range(s, []api.Evidence{first}, whole, axis); got != (api.Interval{Lo: -most, Hi: -most}) || e != api.OK {
			t.Errorf("Range of a layer along %d: %v, %d", axis, got, e)
		}
	}
}

// P16.4: only cells without any evidence are unseen; the box need not lie within the pit.
func TestUnseen(t *testing.T) {
	clash := append(faces(), isFlawed(boxOf(0, 0, 7, 10, 10, 9)))
	for _, c := range []struct {
		list []api.Evidence
		b    api.Box
		want int64
	}{
		{faces(), cube(10), 200},
		{faces(), to(5, 5, 8), 0},
		{faces(), to(5, 5, 9), 25},
		{faces(), boxOf(-1, 0, 0, 11, 1, 1), 2},
		{clash, cube(10), 100},
		{nil, cube(10), 1000},
		{nil, boxOf(-most, -most, -most, most, most, most), 8 * most * most * most},
	} {
		if got, e := sound.Unseen(pit(), c.list, c.b); got != c.want || e != api.OK {
			t.Errorf("Unseen of %v: %d, %d", c.b, got, e)
		}
	}
}

// P16.4: the third example of the chapter, and parts in their order.
func TestPieces(t *testing.T) {
	all := []api.Evidence{isSound(cube(100))}
	for _, c := range []struct {
		s    api.Survey
		list []api.Evidence
		b    api.Box
		want []api.Box
	}{
		{pit(), faces(), to(5, 5, 8), []api.Box{to(5, 5, 4), boxOf(0, 0, 4, 5, 5, 8)}},
		{pit(), faces(), to(5, 5, 9), []api.Box{to(5, 5, 4)}},
		{pit(), faces(), boxOf(0, 0, 5, 5, 5, 9), nil},
		{pit(), faces(), to(5, 5, 3), []api.Box{to(5, 5, 3)}},
		{pit(), faces(), to(10, 10, 8), nil},
		{pit(), nil, to(5, 5, 4), nil},
		// The joint j1 divides the box in its whole height, although it passes through the lower part only; the flaw fb reaches neither part.
		{rich(), all, boxOf(15, 10, 5, 25, 20, 40), []api.Box{
			boxOf(15, 10, 5, 20, 20, 30), boxOf(20, 10, 5, 25, 20, 30), boxOf(15, 10, 30, 20, 20, 40), boxOf(20, 10, 30, 25, 20, 40),
		}},
		{rich(), all, boxOf(5, 35, 10, 40, 45, 30), []api.Box{
			boxOf(5, 35, 10, 10, 40, 30), boxOf(10, 35, 10, 40, 40, 30), boxOf(5, 40, 10, 10, 45, 30), boxOf(10, 40, 10, 40, 45, 30),
		}},
		// Two joints are at one place.
		{rich(), all, boxOf(15, 0, 0, 25, 5, 100), []api.Box{
			boxOf(15, 0, 0, 20, 5, 30), boxOf(20, 0, 0, 25, 5, 30), boxOf(15, 0, 30, 20, 5, 60), boxOf(20, 0, 30, 25, 5, 60),
			boxOf(15, 0, 60, 20, 5, 90), boxOf(20, 0, 60, 25, 5, 90), boxOf(15, 0, 90, 20, 5, 100), boxOf(20, 0, 90, 25, 5, 100),
		}},
		// The flaw fc is in the part above the bed bc alone.
		{rich(), all, boxOf(62, 62, 40, 70, 70, 85), []api.Box{boxOf(62, 62, 40, 70, 70, 60)}},
		{rich(), append(all, isFlawed(boxOf(7, 39, 12, 8, 40, 13))), boxOf(5, 35, 10, 40, 45, 30), []api.Box{
			boxOf(10, 35, 10, 40, 40, 30), boxOf(5, 40, 10, 10, 45, 30), boxOf(10, 40, 10, 40, 45, 30),
		}},
	} {
		if got, e := sound.Pieces(c.s, c.list, c.b); !slices.Equal(got, c.want) || e != api.OK {
			t.Errorf("Pieces of %v: %v, %d", c.b, got, e)
		}
	}
}

// P16.4: a part is known to be sound if several pieces of evidence together say so.
func TestPiecesOfJoinedEvidence(t *testing.T) {
	s := pit()
	left, right, low := isSound(boxOf(-5, 0, 0, 3, 9, 9)), isSound(boxOf(3, 0, 1, 7, 9, 9)), isSound(boxOf(3, 0, 0, 9, 9, 1))
	whole := isSound(boxOf(0, 0, 0, 6, 6, 6))
	for _, c := range []struct {
		list []api.Evidence
		want []api.Box
	}{
		{[]api.Evidence{left, right, low}, []api.Box{to(6, 6, 4), boxOf(0, 0, 4, 6, 6, 9)}},
		{[]api.Evidence{left, right}, []api.Box{boxOf(0, 0, 4, 6, 6, 9)}},
		{[]api.Evidence{left, low}, nil},
		{[]api.Evidence{whole, whole, left, whole, low}, []api.Box{to(6, 6, 4)}},
		{[]api.Evidence{whole, isFlawed(boxOf(5, 5, 3, 9, 9, 4)), left, right, low}, []api.Box{boxOf(0, 0, 4, 6, 6, 9)}},
		{[]api.Evidence{isFlawed(to(6, 6, 4)), whole, isFlawed(to(6, 6, 5)), left, right, low}, nil},
	} {
		if got, e := sound.Pieces(s, c.list, to(6, 6, 9)); !slices.Equal(got, c.want) || e != api.OK {
			t.Errorf("Pieces with %v: %v, %d", c.list, got, e)
		}
	}
}

// full returns a survey with as many beds and joints as there may be, and flaws over the first cells of a pit of 130 x 130 x 65.
func full() api.Survey {
	s := api.Survey{Pit: to(130, 130, 65)}
	for i := range api.MaxBeds {
		s.Beds = append(s.Beds, api.Bed{Name: fmt.Sprintf("b%03d", i), Z: i + 1})
	}
	for i := range api.MaxJoints {
		s.Joints = append(s.Joints, api.Joint{Name: fmt.Sprintf("j%03d", i), Axis: i % 2, At: 2 + i/2*2, Hi: 1 + i%65})
	}
	for i := range api.MaxFlaws {
		s.Flaws = append(s.Flaws, square(fmt.Sprintf("f%03d", i), boxOf(2*i, 0, 0, 2*i+1, 1, i+1)))
	}
	return s
}

// P16.4: as many parts as there may be.
func TestManyPieces(t *testing.T) {
	s := full()
	var list []api.Evidence
	for i := range api.MaxEvidence - 1 {
		list = append(list, isSound(to(130, 130, 65)))
		list[i].Source = fmt.Sprint("face ", i)
	}
	list = append(list, isFlawed(boxOf(0, 100, 0, 130, 101, 65)))
	pieces, e := sound.Pieces(s, list, s.Pit)
	// Each flaw reaches one more part than the one before it; the flawed evidence is in one row of each layer.
	want := 65*65*65 - 65*64/2 - 65*65
	if len(pieces) != want || e != api.OK {
		t.Fatalf("Pieces: %d, %d", len(pieces), e)
	}
	if pieces[0] != boxOf(128, 0, 0, 130, 2, 1) || pieces[want-1] != boxOf(128, 128, 64, 130, 130, 65) {
		t.Errorf("Pieces from %v to %v", pieces[0], pieces[want-1])
	}
}

// Rules: arguments are neither modified nor kept.
func TestArgumentsAreLeft(t *testing.T) {
	s, list := rich(), []api.Evidence{isSound(cube(100)), isFlawed(boxOf(7, 8, 9, 8, 9, 10)), isSound(cube(50))}
	before := slices.Clone(list)
	sound.Find(s, list, cube(100))
	sound.Range(s, list, cube(100), api.AxisY)
	sound.Verify(s, list, cube(100), sound.Witness{})
	pieces, _ := sound.Pieces(s, list, cube(100))
	for i := range pieces {
		pieces[i] = api.Box{}
	}
	if !survey.Equal(s, rich()) || !slices.Equal(list, before) {
		t.Errorf("the arguments are %v and %v", s, list)
	}
}
