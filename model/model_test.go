package model_test

import (
	"fmt"
	"math"
	"slices"
	"testing"

	"gangsaw/api"
	"gangsaw/model"
)

const most = api.MaxCoord

// states are all states, in order.
var states = []int{api.Unseen, api.Sound, api.Flawed, api.Clash}

// boxOf returns the box with these ends.
func boxOf(x, y, z, toX, toY, toZ int) api.Box {
	return api.Box{Min: api.Vec{X: x, Y: y, Z: z}, Max: api.Vec{X: toX, Y: toY, Z: toZ}}
}

// cube returns the box from one number to another one in each coordinate.
func cube(from, to int) api.Box { return boxOf(from, from, from, to, to, to) }

// vec returns a point with equal coordinates.
func vec(n int) api.Vec { return api.Vec{X: n, Y: n, Z: n} }

func sound(source string, b api.Box) api.Evidence {
	return api.Evidence{Source: source, Box: b, State: api.Sound}
}

func flawed(source string, b api.Box) api.Evidence {
	return api.Evidence{Source: source, Box: b, State: api.Flawed}
}

// example returns the evidence of the chapter's examples.
func example() []api.Evidence {
	return []api.Evidence{sound("a", cube(0, 10)), flawed("b", cube(5, 15))}
}

// P15.1: the join of all states.
func TestJoin(t *testing.T) {
	want := [4][4]int{
		{api.Unseen, api.Sound, api.Flawed, api.Clash},
		{api.Sound, api.Sound, api.Clash, api.Clash},
		{api.Flawed, api.Clash, api.Flawed, api.Clash},
		{api.Clash, api.Clash, api.Clash, api.Clash},
	}
	for _, a := range states {
		for _, b := range states {
			if got, e := model.Join(a, b); got != want[a][b] || e != api.OK {
				t.Errorf("Join of %d and %d: %d, %d", a, b, got, e)
			}
		}
	}
}

// P15.2: the first example of the chapter, and cells at the sides of boxes.
func TestState(t *testing.T) {
	for _, c := range []struct {
		cell api.Vec
		want int
	}{
		{vec(5), api.Clash},
		{api.Vec{X: 4, Y: 5, Z: 5}, api.Sound},
		{api.Vec{X: 5, Y: 4, Z: 5}, api.Sound},
		{api.Vec{X: 5, Y: 5, Z: 4}, api.Sound},
		{vec(10), api.Flawed},
		{api.Vec{X: 20}, api.Unseen},
		{vec(0), api.Sound},
		{vec(-1), api.Unseen},
		{api.Vec{X: -1}, api.Unseen},
		{vec(9), api.Clash},
		{api.Vec{X: 9, Y: 9, Z: 10}, api.Flawed},
		{vec(14), api.Flawed},
		{api.Vec{X: 14, Y: 15, Z: 14}, api.Unseen},
		{vec(-most), api.Unseen},
		{vec(most - 1), api.Unseen},
	} {
		if got, e := model.State(example(), c.cell); got != c.want || e != api.OK {
			t.Errorf("State of %v: %d, %d", c.cell, got, e)
		}
	}
	if got, e := model.State(nil, vec(0)); got != api.Unseen || e != api.OK {
		t.Errorf("State without evidence: %d, %d", got, e)
	}
	everything := []api.Evidence{flawed("f", cube(-most, most))}
	for _, cell := range []api.Vec{vec(-most), vec(0), vec(most - 1)} {
		if got, e := model.State(everything, cell); got != api.Flawed || e != api.OK {
			t.Errorf("State of %v: %d, %d", cell, got, e)
		}
	}
}

// P15.2: the third example of the chapter, and sources that are given more than once.
func TestSources(t *testing.T) {
	many := []api.Evidence{
		sound("b2", cube(0, 9)), flawed("b10", cube(0, 9)), sound("face 3", cube(0, 5)), flawed("b2", cube(1, 9)),
		sound("B", cube(0, 2)), sound("b2", cube(0, 9)), flawed("#", cube(1, 3)), sound("far", cube(20, 30)),
	}
	for _, c := range []struct {
		list []api.Evidence
		cell api.Vec
		want []string
	}{
		{example(), vec(5), []string{"a", "b"}},
		{example(), vec(4), []string{"a"}},
		{example(), vec(10), []string{"b"}},
		{example(), vec(20), nil},
		{nil, vec(0), nil},
		{many, vec(1), []string{"#", "B", "b10", "b2", "face 3"}},
		{many, vec(0), []string{"B", "b10", "b2", "face 3"}},
		{many, vec(5), []string{"b10", "b2"}},
		{many, vec(29), []string{"far"}},
		{many, vec(30), nil},
	} {
		if got, e := model.Sources(c.list, c.cell); !slices.Equal(got, c.want) || e != api.OK {
			t.Errorf("Sources of %v: %q, %d", c.cell, got, e)
		}
	}
}

// P15.3: the second example of the chapter, and other boxes about the same evidence.
func TestVolume(t *testing.T) {
	for _, c := range []struct {
		b    api.Box
		want [4]int64 // by states
	}{
		{cube(0, 10), [4]int64{0, 875, 0, 125}},
		{cube(0, 15), [4]int64{3375 - 875 - 875 - 125, 875, 875, 125}},
		{cube(5, 10), [4]int64{0, 0, 0, 125}},
		{cube(10, 15), [4]int64{0, 0, 125, 0}},
		{cube(15, 20), [4]int64{125, 0, 0, 0}},
		{cube(4, 6), [4]int64{0, 7, 0, 1}},
		{boxOf(-5, 0, 0, 20, 1, 1), [4]int64{15, 10, 0, 0}},
		{boxOf(0, -5, 7, 10, 20, 8), [4]int64{125, 75, 25, 25}},
		{cube(-20, -10), [4]int64{1000, 0, 0, 0}},
	} {
		checkVolumes(t, example(), c.b, c.want)
	}
	checkVolumes(t, nil, cube(0, 3), [4]int64{27, 0, 0, 0})
}

// checkVolumes checks the volumes of all states in a box, and that All says of a state whether it has the whole volume.
func checkVolumes(t *testing.T, list []api.Evidence, b api.Box, want [4]int64) {
	t.Helper()
	whole := want[0] + want[1] + want[2] + want[3]
	for _, state := range states {
		if got, e := model.Volume(list, b, state); got != want[state] || e != api.OK {
			t.Errorf("Volume of %v and %d: %d, %d", b, state, got, e)
		}
		if got, e := model.All(list, b, state); got != (want[state] == whole) || e != api.OK {
			t.Errorf("All of %v and %d: %v, %d", b, state, got, e)
		}
	}
}

// P15.3: volumes of the greatest box.
func TestGreatVolumes(t *testing.T) {
	const whole = 8 * most * most * most
	all := cube(-most, most)
	checkVolumes(t, nil, all, [4]int64{whole, 0, 0, 0})
	checkVolumes(t, []api.Evidence{sound("s", all)}, all, [4]int64{0, whole, 0, 0})
	checkVolumes(t, []api.Evidence{flawed("f", all)}, all, [4]int64{0, 0, whole, 0})
	checkVolumes(t, []api.Evidence{flawed("f", all), sound("s", all)}, all, [4]int64{0, 0, 0, whole})
	last := sound("s", cube(most-1, most))
	checkVolumes(t, []api.Evidence{flawed("f", all), last}, all, [4]int64{0, 0, whole - 1, 1})
	checkVolumes(t, []api.Evidence{last}, all, [4]int64{whole - 1, 1, 0, 0})
}

// P15.3: the second example of the chapter, and the order of cells: by Z, then by Y, then by X.
func TestFirst(t *testing.T) {
	least := []api.Evidence{
		sound("high", boxOf(0, 0, 6, 1, 1, 7)), sound("behind", boxOf(0, 5, 2, 1, 6, 3)), sound("right", boxOf(7, 4, 2, 9, 5, 3)),
		flawed("left", boxOf(3, 4, 2, 5, 9, 9)),
	}
	for _, c := range []struct {
		list  []api.Evidence
		b     api.Box
		state int
		want  api.Vec
	}{
		{example(), cube(0, 10), api.Clash, vec(5)},
		{example(), cube(0, 10), api.Sound, vec(0)},
		{example(), cube(3, 12), api.Sound, vec(3)},
		{example(), cube(5, 12), api.Flawed, api.Vec{X: 10, Y: 5, Z: 5}},
		{example(), boxOf(5, 5, 5, 10, 12, 12), api.Flawed, api.Vec{X: 5, Y: 10, Z: 5}},
		{example(), boxOf(5, 5, 5, 10, 10, 12), api.Flawed, api.Vec{X: 5, Y: 5, Z: 10}},
		{least, cube(0, 10), api.Unseen, vec(0)},
		{least, cube(0, 10), api.Sound, api.Vec{X: 7, Y: 4, Z: 2}},
		{least, cube(0, 10), api.Flawed, api.Vec{X: 3, Y: 4, Z: 2}},
		{least, boxOf(8, 0, 0, 10, 10, 10), api.Sound, api.Vec{X: 8, Y: 4, Z: 2}},
		{least, boxOf(0, 5, 0, 10, 10, 10), api.Sound, api.Vec{X: 0, Y: 5, Z: 2}},
		{least, boxOf(0, 0, 3, 10, 10, 10), api.Sound, api.Vec{X: 0, Y: 0, Z: 6}},
		{nil, cube(-most, most), api.Unseen, vec(-most)},
		{[]api.Evidence{flawed("f", cube(most-1, most))}, cube(-most, most), api.Flawed, vec(most - 1)},
	} {
		if got, e := model.First(c.list, c.b, c.state); got != c.want || e != api.OK {
			t.Errorf("First of %v and %d: %v, %d", c.b, c.state, got, e)
		}
	}
}

// P15.4: the first example of the chapter; boxes that only touch each other do not overlap.
func TestClashes(t *testing.T) {
	for _, c := range []struct {
		list []api.Evidence
		want [][2]int
	}{
		{example(), [][2]int{{0, 1}}},
		{nil, nil},
		{[]api.Evidence{sound("a", cube(0, 10)), sound("b", cube(5, 15))}, nil},
		{[]api.Evidence{flawed("a", cube(0, 10)), flawed("a", cube(0, 10))}, nil},
		{[]api.Evidence{flawed("a", cube(0, 10)), sound("b", boxOf(10, 0, 0, 20, 10, 10))}, nil},
		{[]api.Evidence{flawed("a", cube(0, 10)), sound("a", boxOf(9, 9, 9, 20, 20, 20))}, [][2]int{{0, 1}}},
		{
			[]api.Evidence{sound("a", cube(0, 9)), flawed("b", cube(8, 12)), sound("c", cube(11, 20)), flawed("d", cube(0, 2)), sound("e", cube(1, 12))},
			[][2]int{{0, 1}, {0, 3}, {1, 2}, {1, 4}, {3, 4}},
		},
	} {
		if got, e := model.Clashes(c.list); !slices.Equal(got, c.want) || e != api.OK {
			t.Errorf("Clashes of %v: %v, %d", c.list, got, e)
		}
	}
}

// P15.4: all that is from a source is left out, and what remains keeps its order.
func TestWithout(t *testing.T) {
	a, b, c := sound("a", cube(0, 1)), flawed("b", cube(0, 2)), sound("c", cube(5, 9))
	for _, test := range []struct {
		list   []api.Evidence
		source string
		want   []api.Evidence
	}{
		{[]api.Evidence{a, b, c}, "a", []api.Evidence{b, c}},
		{[]api.Evidence{c, b, a}, "b", []api.Evidence{c, a}},
		{[]api.Evidence{b, a, b, c, b, b}, "b", []api.Evidence{a, c}},
		{[]api.Evidence{b, b}, "b", nil},
		{[]api.Evidence{a, b, c, a}, "d", []api.Evidence{a, b, c, a}},
		{[]api.Evidence{a, b}, "A", []api.Evidence{a, b}},
		{[]api.Evidence{a, b}, "", []api.Evidence{a, b}},
		{[]api.Evidence{a, b}, " a\n", []api.Evidence{a, b}},
		{nil, "a", nil},
	} {
		if got, e := model.Without(test.list, test.source); !slices.Equal(got, test.want) || e != api.OK {
			t.Errorf("Without %q: %v, %d", test.source, got, e)
		}
	}
}

// P15.4: the third example of the chapter, and what other elements say of all cells of an element, or of all but one.
func TestUseless(t *testing.T) {
	again := append(example(), sound("c", cube(0, 10)))
	halves := []api.Evidence{sound("left", boxOf(0, 0, 0, 6, 9, 9)), sound("right", boxOf(4, 0, 0, 9, 9, 9)), sound("all", cube(0, 9))}
	hole := []api.Evidence{flawed("all", cube(0, 3)), flawed("low", boxOf(0, 0, 0, 3, 3, 1)), flawed("rest", boxOf(0, 0, 1, 3, 2, 3)), flawed("row", boxOf(0, 2, 1, 2, 3, 3))}
	filled := append(slices.Clone(hole), flawed("last", boxOf(2, 2, 1, 3, 3, 3)))
	for _, c := range []struct {
		list  []api.Evidence
		index int
		want  bool
	}{
		{again, 0, true},
		{again, 1, false},
		{again, 2, true},
		{slices.Delete(slices.Clone(again), 1, 2), 0, true},
		{example(), 0, false},
		{example(), 1, false},
		{[]api.Evidence{sound("a", cube(0, 9)), flawed("b", cube(0, 9))}, 0, false},
		{[]api.Evidence{sound("a", cube(0, 9)), flawed("b", cube(0, 9))}, 1, false},
		{halves, 0, true},
		{halves, 1, true},
		{halves, 2, true},
		{halves[:2], 0, false},
		{halves[:2], 1, false},
		{hole, 0, false},
		{hole, 1, true},
		{filled, 0, true},
		{filled, 4, true},
		{[]api.Evidence{sound("a", cube(0, 9)), flawed("b", cube(0, 5)), sound("c", cube(1, 2))}, 2, true},
		{[]api.Evidence{sound("a", cube(0, 9)), flawed("b", cube(0, 5)), sound("c", cube(1, 10))}, 2, false},
		{[]api.Evidence{sound("a", cube(0, 9))}, 0, false},
	} {
		if got, e := model.Useless(c.list, c.index); got != c.want || e != api.OK {
			t.Errorf("Useless of %d in %v: %v, %d", c.index, c.list, got, e)
		}
	}
}

// nested returns as much evidence as there may be, about boxes that lie in each other.
func nested(state func(i int) int) []api.Evidence {
	var list []api.Evidence
	for i := range api.MaxEvidence {
		list = append(list, api.Evidence{Source: fmt.Sprint("source ", i), Box: cube(-1000+i, 1000-i), State: state(i)})
	}
	return list
}

// cubed returns the volume of the nested box with this number.
func cubed(i int) int64 { return int64(2000-2*i) * int64(2000-2*i) * int64(2000-2*i) }

// P15.3, P15.4: as much evidence as there may be, with as many coordinates.
func TestMuchEvidence(t *testing.T) {
	list := nested(func(i int) int { return []int{api.Flawed, api.Sound}[i/(api.MaxEvidence-1)] })
	inner := cubed(api.MaxEvidence - 1)
	checkVolumes(t, list, cube(-1001, 1001), [4]int64{cubed(-1) - cubed(0), 0, cubed(0) - inner, inner})
	if got, e := model.First(list, cube(-1001, 1001), api.Clash); got != vec(-1001+api.MaxEvidence) || e != api.OK {
		t.Errorf("First: %v, %d", got, e)
	}
	pairs, e := model.Clashes(list)
	if len(pairs) != api.MaxEvidence-1 || pairs[254] != [2]int{254, 255} || e != api.OK {
		t.Errorf("Clashes: %v, %d", pairs, e)
	}
	sources, e := model.Sources(list, vec(0))
	if len(sources) != api.MaxEvidence || !slices.IsSorted(sources) || e != api.OK {
		t.Errorf("Sources: %q, %d", sources, e)
	}
	for index, want := range map[int]bool{0: false, 1: true, 100: true, 254: true, 255: false} {
		if got, e := model.Useless(list, index); got != want || e != api.OK {
			t.Errorf("Useless of %d: %v, %d", index, got, e)
		}
	}
	if rest, e := model.Without(list, "source 7"); len(rest) != api.MaxEvidence-1 || rest[7] != list[8] || e != api.OK {
		t.Errorf("Without: %v, %d", rest, e)
	}
}

// P15.1: labels, boxes and lists at the limits.
func TestCheck(t *testing.T) {
	for _, list := range [][]api.Evidence{
		nil,
		{},
		example(),
		nested(func(i int) int { return 1 + i%2 }),
		{sound("!", cube(-most, most)), flawed("~", cube(-most, -most+1)), sound("a b#", cube(most-1, most))},
		{sound("1234567890123456789012345678901234567890", cube(0, 1))},
	} {
		if e := model.Check(list); e != api.OK {
			t.Errorf("Check of %v: %d", list, e)
		}
	}
}

// Rules: arguments are neither modified nor kept, and results share no memory with them.
func TestListsAreApart(t *testing.T) {
	list := []api.Evidence{flawed("b", cube(5, 15)), sound("a", cube(0, 10)), flawed("b", cube(2, 4))}
	before := slices.Clone(list)
	rest, _ := model.Without(list, "b")
	all, _ := model.Without(list, "c")
	sources, _ := model.Sources(list, vec(5))
	model.Volume(list, cube(0, 20), api.Sound)
	model.First(list, cube(0, 20), api.Clash)
	model.Useless(list, 1)
	if !slices.Equal(list, before) {
		t.Errorf("the list is %v", list)
	}
	rest[0].Source, all[0].Source, all[1].State, sources[0] = "x", "y", math.MaxInt, "z"
	if !slices.Equal(list, before) {
		t.Errorf("the list is %v after its results were changed", list)
	}
	list[1].Source = "later"
	if rest[0].Source != "x" || all[1].Source != "a" || sources[1] != "b" {
		t.Errorf("the results are %v, %v and %q after the list was changed", rest, all, sources)
	}
}
