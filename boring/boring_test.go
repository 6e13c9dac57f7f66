package boring_test

import (
	"math"
	"slices"
	"testing"

	"gangsaw/api"
	"gangsaw/boring"
)

// boxOf returns the box with these ends.
func boxOf(x, y, z, toX, toY, toZ int) api.Box {
	return api.Box{Min: api.Vec{X: x, Y: y, Z: z}, Max: api.Vec{X: toX, Y: toY, Z: toZ}}
}

func sound(lo, hi int) api.Log  { return api.Log{Lo: lo, Hi: hi, State: api.Sound} }
func flawed(lo, hi int) api.Log { return api.Log{Lo: lo, Hi: hi, State: api.Flawed} }

// at returns a boring at (5, 5).
func at(name string, logs ...api.Log) api.Boring {
	return api.Boring{Name: name, At: api.Point{X: 5, Y: 5}, Logs: logs}
}

// b1 returns the boring of the chapter's examples.
func b1() api.Boring { return at("b1", sound(0, 10), sound(10, 20), flawed(25, 30)) }

// equal reports whether two borings are equal.
func equal(a, b api.Boring) bool {
	return a.Name == b.Name && a.At == b.At && slices.Equal(a.Logs, b.Logs)
}

// P14.1: the first example of the chapter, and borings of any kind.
func TestState(t *testing.T) {
	odd := api.Boring{Logs: []api.Log{{Lo: 9, Hi: 3, State: 5}, {Lo: 4, Hi: 8, State: 7}, {Lo: 0, Hi: 6, State: -1}, {Lo: 7, Hi: 7, State: 3}, {Lo: math.MinInt, Hi: math.MaxInt, State: 2}}}
	for _, c := range []struct {
		b       api.Boring
		z, want int
	}{
		{b1(), -1, api.Unseen}, {b1(), 0, api.Sound}, {b1(), 9, api.Sound}, {b1(), 10, api.Sound}, {b1(), 19, api.Sound},
		{b1(), 20, api.Unseen}, {b1(), 24, api.Unseen}, {b1(), 25, api.Flawed}, {b1(), 29, api.Flawed}, {b1(), 30, api.Unseen},
		{api.Boring{}, 0, api.Unseen},
		{odd, 3, -1}, {odd, 4, 7}, {odd, 5, 7}, {odd, 7, 7}, {odd, 8, 2}, {odd, -1, 2}, {odd, 0, -1},
		{odd, math.MinInt, 2}, {odd, math.MaxInt - 1, 2}, {odd, math.MaxInt, api.Unseen},
	} {
		if got := boring.State(c.b, c.z); got != c.want {
			t.Errorf("State of %v at %d: %d", c.b, c.z, got)
		}
	}
}

// P14.1: the first example of the chapter, and what is not counted.
func TestSeen(t *testing.T) {
	manyLogs := api.Boring{}
	for i := range 1000 {
		manyLogs.Logs = append(manyLogs.Logs, api.Log{Lo: 3 * i, Hi: 3*i + 2, State: 1 + i%2})
	}
	odd := api.Boring{Logs: []api.Log{sound(0, 4), {Lo: 4, Hi: 9, State: 7}, sound(9, 10), {Lo: 10, Hi: 11}, sound(12, 15)}}
	for _, c := range []struct {
		b             api.Boring
		state         int
		seen, longest int
	}{
		{b1(), api.Sound, 20, 20},
		{b1(), api.Flawed, 5, 5},
		{b1(), api.Unseen, 0, 0},
		{b1(), api.Clash, 0, 0},
		{b1(), -1, 0, 0},
		{api.Boring{}, api.Sound, 0, 0},
		{at("b", sound(0, 3), flawed(3, 7), sound(7, 9), sound(10, 12)), api.Sound, 7, 3},
		{at("b", sound(0, 3), flawed(3, 7), sound(7, 9), sound(9, 12)), api.Sound, 8, 5},
		{at("b", sound(0, 3), sound(2, 5)), api.Sound, 0, 0},
		{at("b", sound(5, 9), flawed(0, 3)), api.Sound, 0, 0},
		{at("b", sound(0, 3), flawed(5, 5)), api.Sound, 0, 0},
		{at("b", flawed(8, 6), sound(9, 12)), api.Sound, 0, 0},
		{manyLogs, api.Sound, 1000, 2},
		{odd, api.Sound, 8, 4},
		{odd, 7, 0, 0},
		{odd, api.Unseen, 0, 0},
		{at("b", sound(math.MinInt, math.MinInt+4), flawed(-1, 0), sound(math.MaxInt-3, math.MaxInt)), api.Sound, 7, 4},
		{at("b", flawed(math.MinInt, -1)), api.Flawed, math.MaxInt, math.MaxInt},
		{at("b", flawed(0, math.MaxInt)), api.Flawed, math.MaxInt, math.MaxInt},
	} {
		if seen, longest := boring.Seen(c.b, c.state); seen != c.seen || longest != c.longest {
			t.Errorf("Seen of %v in %v: %d, %d", c.state, c.b, seen, longest)
		}
	}
}

// P14.6: a state has no longer run than it is seen, even if it is seen at more z than there are numbers.
func TestSeenEverywhere(t *testing.T) {
	for _, logs := range [][]api.Log{
		{sound(math.MinInt, math.MaxInt)},
		{sound(math.MinInt, 0), sound(0, math.MaxInt)},
		{sound(math.MinInt, 0), sound(1, math.MaxInt)},
	} {
		if seen, longest := boring.Seen(at("b", logs...), api.Sound); longest > seen || longest < math.MaxInt-1 {
			t.Errorf("Seen of %v: %d, %d", logs, seen, longest)
		}
	}
}

// P14.2: the first example of the chapter, and logs that are not joined.
func TestNormal(t *testing.T) {
	for _, c := range []struct{ logs, want []api.Log }{
		{b1().Logs, []api.Log{sound(0, 20), flawed(25, 30)}},
		{nil, nil},
		{[]api.Log{sound(0, 5)}, []api.Log{sound(0, 5)}},
		{[]api.Log{sound(0, 5), flawed(5, 6)}, []api.Log{sound(0, 5), flawed(5, 6)}},
		{[]api.Log{sound(0, 5), sound(6, 7)}, []api.Log{sound(0, 5), sound(6, 7)}},
		{[]api.Log{sound(0, 5), sound(5, 6), sound(6, 9)}, []api.Log{sound(0, 9)}},
		{[]api.Log{flawed(-9, -5), flawed(-5, 0), sound(0, 6), sound(6, 9), flawed(9, 10)}, []api.Log{flawed(-9, 0), sound(0, 9), flawed(9, 10)}},
		{[]api.Log{sound(-api.MaxCoord, 0), sound(0, api.MaxCoord)}, []api.Log{sound(-api.MaxCoord, api.MaxCoord)}},
	} {
		if got, e := boring.Normal(at("b", c.logs...)); e != api.OK || !equal(got, at("b", c.want...)) {
			t.Errorf("Normal of %v: %v, %d", c.logs, got, e)
		}
	}
}

// P14.2: the first example of the chapter, and borings at the ends of all pits.
func TestEvidence(t *testing.T) {
	got, e := boring.Evidence(b1())
	want := []api.Evidence{{Source: "b1", Box: boxOf(5, 5, 0, 6, 6, 20), State: api.Sound}, {Source: "b1", Box: boxOf(5, 5, 25, 6, 6, 30), State: api.Flawed}}
	if e != api.OK || !slices.Equal(got, want) {
		t.Errorf("Evidence: %v, %d", got, e)
	}
	if got, e := boring.Evidence(at("b")); e != api.OK || len(got) != 0 {
		t.Errorf("Evidence without logs: %v, %d", got, e)
	}
	const most = api.MaxCoord
	corner := api.Boring{Name: "c", At: api.Point{X: -most, Y: most - 1}, Logs: []api.Log{flawed(-most, most)}}
	got, e = boring.Evidence(corner)
	if e != api.OK || !slices.Equal(got, []api.Evidence{{Source: "c", Box: boxOf(-most, most-1, -most, 1-most, most, most), State: api.Flawed}}) {
		t.Errorf("Evidence: %v, %d", got, e)
	}
}

// P14.3: the second example of the chapter, and other logs at one point.
func TestMerge(t *testing.T) {
	for _, c := range []struct {
		a, b, want []api.Log
		code       api.Errno
	}{
		{b1().Logs, []api.Log{sound(18, 25)}, []api.Log{sound(0, 25), flawed(25, 30)}, api.OK},
		{b1().Logs, []api.Log{flawed(15, 16)}, nil, api.ErrConflict},
		{b1().Logs, b1().Logs, []api.Log{sound(0, 20), flawed(25, 30)}, api.OK},
		{b1().Logs, nil, []api.Log{sound(0, 20), flawed(25, 30)}, api.OK},
		{nil, b1().Logs, []api.Log{sound(0, 20), flawed(25, 30)}, api.OK},
		{nil, nil, nil, api.OK},
		{b1().Logs, []api.Log{flawed(20, 25)}, []api.Log{sound(0, 20), flawed(20, 30)}, api.OK},
		{b1().Logs, []api.Log{flawed(19, 25)}, nil, api.ErrConflict},
		{b1().Logs, []api.Log{sound(20, 26)}, nil, api.ErrConflict},
		{[]api.Log{sound(0, 2), sound(8, 9)}, []api.Log{flawed(3, 5), sound(6, 8)}, []api.Log{sound(0, 2), flawed(3, 5), sound(6, 9)}, api.OK},
		{[]api.Log{sound(5, 9)}, []api.Log{sound(0, 20)}, []api.Log{sound(0, 20)}, api.OK},
	} {
		a, b := at("a", c.a...), at("b", c.b...)
		want := api.Boring{}
		if c.code == api.OK {
			want = at("a", c.want...)
		}
		if got, e := boring.Merge(a, b); e != c.code || !equal(got, want) {
			t.Errorf("Merge of %v and %v: %v, %d", c.a, c.b, got, e)
		}
	}
	for _, p := range []api.Point{{X: 5, Y: 6}, {X: 6, Y: 5}} {
		other := at("b", sound(0, 5))
		other.At = p
		if got, e := boring.Merge(b1(), other); e != api.ErrConflict || !equal(got, api.Boring{}) {
			t.Errorf("Merge with a boring at %v: %v, %d", p, got, e)
		}
	}
}

// P14.3: what two borings say together may have more than MaxLogs logs.
func TestMergeOfManyLogs(t *testing.T) {
	a, b, want := at("a"), at("b"), at("a")
	for i := range api.MaxLogs {
		a.Logs = append(a.Logs, sound(10*i, 10*i+2))
		b.Logs = append(b.Logs, flawed(10*i+5, 10*i+7))
		want.Logs = append(want.Logs, sound(10*i, 10*i+2), flawed(10*i+5, 10*i+7))
	}
	if got, e := boring.Merge(a, b); e != api.OK || !equal(got, want) {
		t.Errorf("Merge: %v, %d", got, e)
	}
}

// square returns a flaw over the square from one number to another one in x and y.
func square(name string, from, to, lo, hi int) api.Flaw {
	base := api.Polygon{{X: from, Y: from}, {X: to, Y: from}, {X: to, Y: to}, {X: from, Y: to}}
	return api.Flaw{Name: name, Prism: api.Prism{Base: base, Lo: lo, Hi: hi}}
}

// surveyWith returns a survey of the pit from 0 to 100 with these flaws.
func surveyWith(flaws ...api.Flaw) api.Survey {
	return api.Survey{Pit: boxOf(0, 0, 0, 100, 100, 100), Flaws: flaws}
}

// P14.3: the third example of the chapter, and flaws beside, above and below what is sound.
func TestAgainst(t *testing.T) {
	triangle := func(name string, to int) api.Flaw {
		base := api.Polygon{{X: 0, Y: 0}, {X: to, Y: 0}, {X: 0, Y: to}}
		return api.Flaw{Name: name, Prism: api.Prism{Base: base, Lo: 0, Hi: 100}}
	}
	several := []api.Log{sound(0, 10), sound(10, 20), flawed(20, 22), sound(22, 30), sound(35, 50)}
	for _, c := range []struct {
		logs []api.Log
		s    api.Survey
		want []boring.Conflict
	}{
		{b1().Logs, surveyWith(square("f", 0, 10, 15, 40)), []boring.Conflict{{Flaw: "f", Lo: 15, Hi: 20}}},
		{b1().Logs, surveyWith(), nil},
		{nil, surveyWith(square("f", 0, 10, 15, 40)), nil},
		{b1().Logs, surveyWith(square("f", 0, 10, 20, 40)), nil},
		{b1().Logs, surveyWith(square("f", 0, 10, 5, 15)), []boring.Conflict{{Flaw: "f", Lo: 5, Hi: 15}}},
		{b1().Logs, surveyWith(square("f", 0, 5, 0, 40)), nil},
		{b1().Logs, surveyWith(square("f", 6, 9, 0, 40)), nil},
		{b1().Logs, surveyWith(square("f", 5, 6, 0, 1)), []boring.Conflict{{Flaw: "f", Lo: 0, Hi: 1}}},
		{b1().Logs, surveyWith(triangle("f", 10)), nil},
		{b1().Logs, surveyWith(triangle("f", 11)), []boring.Conflict{{Flaw: "f", Lo: 0, Hi: 20}}},
		{several, surveyWith(square("f", 0, 9, 15, 40), square("g", 0, 3, 0, 99), square("h", 2, 8, 0, 100)), []boring.Conflict{
			{Flaw: "f", Lo: 15, Hi: 20}, {Flaw: "f", Lo: 22, Hi: 30}, {Flaw: "f", Lo: 35, Hi: 40},
			{Flaw: "h", Lo: 0, Hi: 20}, {Flaw: "h", Lo: 22, Hi: 30}, {Flaw: "h", Lo: 35, Hi: 50},
		}},
	} {
		if got, e := boring.Against(at("b", c.logs...), c.s); e != api.OK || !slices.Equal(got, c.want) {
			t.Errorf("Against of %v: %v, %d", c.logs, got, e)
		}
	}
	corner := api.Boring{Name: "b", At: api.Point{X: 99, Y: 0}, Logs: []api.Log{sound(0, 100)}}
	s := surveyWith(square("f", 0, 100, 99, 100))
	if got, e := boring.Against(corner, s); e != api.OK || !slices.Equal(got, []boring.Conflict{{Flaw: "f", Lo: 99, Hi: 100}}) {
		t.Errorf("Against at the end of the pit: %v, %d", got, e)
	}
}

// P14.4: the first one with the least distance, at the greatest distances, too.
func TestNearest(t *testing.T) {
	const most = api.MaxCoord
	points := func(list ...api.Point) []api.Boring {
		var out []api.Boring
		for _, p := range list {
			out = append(out, api.Boring{At: p})
		}
		return out
	}
	for _, c := range []struct {
		list []api.Boring
		p    api.Point
		want int
	}{
		{points(api.Point{X: 5, Y: 5}), api.Point{}, 0},
		{points(api.Point{X: 5, Y: 5}, api.Point{X: 7}, api.Point{Y: -7}), api.Point{}, 1},
		{points(api.Point{X: 7, Y: 1}, api.Point{X: 5, Y: 5}, api.Point{X: -5, Y: 5}), api.Point{}, 0},
		{points(api.Point{X: 9}, api.Point{X: 3, Y: 4}, api.Point{X: 5}, api.Point{X: 4, Y: 3}), api.Point{}, 1},
		{points(api.Point{X: 9}, api.Point{X: 3, Y: 4}, api.Point{X: 5}, api.Point{X: 9, Y: 9}), api.Point{X: 8, Y: 8}, 3},
		{points(api.Point{X: most, Y: most}, api.Point{X: most, Y: most - 1}), api.Point{X: -most, Y: -most}, 1},
		{points(api.Point{X: -most, Y: most}, api.Point{X: most, Y: -most}), api.Point{X: most, Y: -most}, 1},
	} {
		if got, e := boring.Nearest(c.list, c.p); got != c.want || e != api.OK {
			t.Errorf("Nearest of %v to %v: %d, %d", c.list, c.p, got, e)
		}
	}
}

// P1: borings are neither modified nor kept, and results share no memory with them.
func TestBoringsAreLeftAlone(t *testing.T) {
	b := b1()
	normal, _ := boring.Normal(b)
	normal.Logs[0] = flawed(1, 2)
	merged, _ := boring.Merge(b, at("c", sound(20, 25)))
	merged.Logs[0] = flawed(1, 2)
	merged, _ = boring.Merge(at("c"), b)
	merged.Logs[0] = flawed(1, 2)
	boring.Evidence(b)
	boring.Seen(b, api.Sound)
	boring.Against(b, surveyWith(square("f", 0, 10, 15, 40)))
	if !equal(b, b1()) {
		t.Errorf("the boring is modified: %v", b)
	}
}
