package boring_test

import (
	"fmt"
	"math/rand"
	"slices"
	"testing"

	"gangsaw/api"
	"gangsaw/boring"
	"gangsaw/box"
	"gangsaw/polygon"
	"gangsaw/survey"
)

// depth is the number of z of random borings, from 0 on.
const depth = 12

// random returns a boring with logs that begin where the one before ends, or later.
func random(r *rand.Rand, name string, p api.Point) api.Boring {
	b := api.Boring{Name: name, At: p}
	for z := r.Intn(3); z < depth; {
		hi := min(z+1+r.Intn(4), depth)
		b.Logs = append(b.Logs, api.Log{Lo: z, Hi: hi, State: 1 + r.Intn(2)})
		z = hi + max(0, r.Intn(4)-1)
	}
	return b
}

// states returns what a boring says at each z, from its logs.
func states(b api.Boring) [depth]int {
	var list [depth]int
	for _, l := range b.Logs {
		for z := l.Lo; z < l.Hi; z++ {
			list[z] = l.State
		}
	}
	return list
}

// runs returns the normal form of the logs that say this.
func runs(list [depth]int) []api.Log {
	var logs []api.Log
	for z, state := range list {
		switch {
		case state == api.Unseen:
		case z > 0 && list[z-1] == state:
			logs[len(logs)-1].Hi++
		default:
			logs = append(logs, api.Log{Lo: z, Hi: z + 1, State: state})
		}
	}
	return logs
}

// P14.1, P14.2, P14.6: what random borings say, z by z.
func TestBoringsByNumbers(t *testing.T) {
	r := rand.New(rand.NewSource(14))
	for range 5000 {
		b := random(r, "b", api.Point{X: r.Intn(9), Y: -r.Intn(9)})
		list := states(b)
		for z, want := range list {
			if got := boring.State(b, z); got != want {
				t.Fatalf("State of %v at %d: %d", b, z, got)
			}
		}
		normal, e := boring.Normal(b)
		if e != api.OK || !equal(normal, api.Boring{Name: b.Name, At: b.At, Logs: runs(list)}) {
			t.Fatalf("Normal of %v: %v, %d", b, normal, e)
		}
		if again, e := boring.Normal(normal); e != api.OK || !equal(again, normal) {
			t.Fatalf("Normal of the normal form %v: %v, %d", normal, again, e)
		}
		checkSeen(t, b, list)
		checkEvidence(t, b, normal)
		l, e := boring.Line(b)
		if got, fault := boring.Load(l); e != api.OK || fault != (api.Fault{}) || !equal(got, b) {
			t.Fatalf("Load of the line of %v: %v, %v, %d", b, got, fault, e)
		}
	}
}

// checkSeen checks the numbers of z with a state, and the runs, against a list of states.
func checkSeen(t *testing.T, b api.Boring, list [depth]int) {
	t.Helper()
	for _, state := range []int{api.Sound, api.Flawed} {
		seen, longest := 0, 0
		for _, l := range runs(list) {
			if l.State == state {
				seen += l.Hi - l.Lo
				longest = max(longest, l.Hi-l.Lo)
			}
		}
		gotSeen, gotLongest := boring.Seen(b, state)
		if gotSeen != seen || gotLongest != longest || gotLongest > gotSeen {
			t.Fatalf("Seen of %d in %v: %d, %d", state, b, gotSeen, gotLongest)
		}
	}
}

// checkEvidence checks that the evidence of a boring is that of the logs of its normal form, with disjoint boxes.
func checkEvidence(t *testing.T, b, normal api.Boring) {
	t.Helper()
	list, e := boring.Evidence(b)
	if e != api.OK || len(list) != len(normal.Logs) {
		t.Fatalf("Evidence of %v: %v, %d", b, list, e)
	}
	var boxes []api.Box
	for i, l := range normal.Logs {
		want := api.Evidence{Source: b.Name, Box: boxOf(b.At.X, b.At.Y, l.Lo, b.At.X+1, b.At.Y+1, l.Hi), State: l.State}
		if list[i] != want {
			t.Fatalf("Evidence of %v: %v instead of %v", b, list[i], want)
		}
		boxes = append(boxes, list[i].Box)
	}
	if _, _, e := box.Clash(boxes); e != api.ErrNone {
		t.Fatalf("boxes of the evidence of %v overlap", b)
	}
}

// P14.3, P14.6: what two borings say together, z by z, in either order.
func TestMergeByNumbers(t *testing.T) {
	r := rand.New(rand.NewSource(143))
	merged := 0
	for range 20000 {
		a, b := random(r, "a", api.Point{X: 3}), random(r, "b", api.Point{X: 3})
		if r.Intn(2) == 0 {
			// Two borings with one state each contradict each other less often.
			for i := range a.Logs {
				a.Logs[i].State = api.Sound
			}
			b.Logs = slices.DeleteFunc(b.Logs, func(l api.Log) bool { return l.State == api.Flawed })
		}
		first, second := states(a), states(b)
		want, conflict := first, false
		for z := range want {
			conflict = conflict || first[z]*second[z] == api.Sound*api.Flawed
			want[z] = max(first[z], second[z])
		}
		ab, e := boring.Merge(a, b)
		ba, e2 := boring.Merge(b, a)
		if conflict {
			if e != api.ErrConflict || e2 != api.ErrConflict || !equal(ab, api.Boring{}) {
				t.Fatalf("Merge of %v and %v: %v, %d, %d", a, b, ab, e, e2)
			}
			continue
		}
		merged++
		if e != api.OK || !equal(ab, api.Boring{Name: "a", At: a.At, Logs: runs(want)}) {
			t.Fatalf("Merge of %v and %v: %v, %d", a, b, ab, e)
		}
		if ba.Name = "a"; e2 != api.OK || !equal(ab, ba) {
			t.Fatalf("Merge of %v and %v: %v, %d, in the other order", a, b, ba, e2)
		}
	}
	if merged < 1000 {
		t.Errorf("only %d borings are merged", merged)
	}
}

// randomSurvey returns a survey of a pit with a few flaws.
func randomSurvey(r *rand.Rand) api.Survey {
	const length = 6
	s := api.Survey{Pit: boxOf(0, 0, 0, length, length, depth)}
	for i := range r.Intn(4) {
		var points []api.Point
		for range 3 + r.Intn(4) {
			points = append(points, api.Point{X: r.Intn(length + 1), Y: r.Intn(length + 1)})
		}
		if base, e := polygon.Hull(points); e == api.OK {
			lo := r.Intn(depth)
			s.Flaws = append(s.Flaws, api.Flaw{Name: fmt.Sprintf("f%d", i), Prism: api.Prism{Base: base, Lo: lo, Hi: lo + 1 + r.Intn(depth-lo)}})
		}
	}
	return s
}

// P14.3: the conflicts of random borings with random surveys, cell by cell.
func TestAgainstByCells(t *testing.T) {
	r := rand.New(rand.NewSource(1431))
	conflicts := 0
	for range 3000 {
		s := randomSurvey(r)
		b := random(r, "b", api.Point{X: r.Intn(6), Y: r.Intn(6)})
		var want []boring.Conflict
		for _, f := range s.Flaws {
			open := false
			for z, state := range states(b) {
				names, e := survey.Flaws(s, boxOf(b.At.X, b.At.Y, z, b.At.X+1, b.At.Y+1, z+1))
				if e != api.OK {
					t.Fatalf("Flaws: %d", e)
				}
				hit := state == api.Sound && slices.Contains(names, f.Name)
				switch {
				case hit && open:
					want[len(want)-1].Hi++
				case hit:
					want = append(want, boring.Conflict{Flaw: f.Name, Lo: z, Hi: z + 1})
				}
				open = hit
			}
		}
		conflicts += len(want)
		if got, e := boring.Against(b, s); e != api.OK || !slices.Equal(got, want) {
			t.Fatalf("Against of %v and %v: %v, %d", b, s, got, e)
		}
	}
	if conflicts < 500 {
		t.Errorf("only %d conflicts", conflicts)
	}
}

// P14.4: no boring is nearer, and none before it is as near.
func TestNearestOfMany(t *testing.T) {
	r := rand.New(rand.NewSource(144))
	for range 2000 {
		point := func() api.Point { return api.Point{X: r.Intn(9) - 4, Y: r.Intn(9) - 4} }
		p := point()
		var list []api.Boring
		for range 1 + r.Intn(80) {
			list = append(list, api.Boring{At: point()})
		}
		distance := func(b api.Boring) int {
			return (b.At.X-p.X)*(b.At.X-p.X) + (b.At.Y-p.Y)*(b.At.Y-p.Y)
		}
		got, e := boring.Nearest(list, p)
		if e != api.OK {
			t.Fatalf("Nearest: %d", e)
		}
		for i, b := range list {
			if d := distance(list[got]); distance(b) < d || i < got && distance(b) == d {
				t.Fatalf("Nearest of %v to %v: %d, not %d", list, p, got, i)
			}
		}
	}
}
