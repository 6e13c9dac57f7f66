package printer_test

import (
	"math/rand"
	"slices"
	"strconv"
	"strings"
	"testing"

	"gangsaw/api"
	"gangsaw/printer"
)

func keep(s string) printer.Edit   { return printer.Edit{Kind: printer.Keep, Text: s} }
func remove(s string) printer.Edit { return printer.Edit{Kind: printer.Delete, Text: s} }
func insert(s string) printer.Edit { return printer.Edit{Kind: printer.Insert, Text: s} }

// edits returns the edits of a text such as "-a =b +c".
func edits(s string) []printer.Edit {
	var out []printer.Edit
	for _, f := range strings.Fields(s) {
		out = append(out, printer.Edit{Kind: strings.IndexByte("=-+", f[0]), Text: f[1:]})
	}
	return out
}

// P11.4: the numbers of the kinds.
func TestKinds(t *testing.T) {
	if printer.Keep != 0 || printer.Delete != 1 || printer.Insert != 2 {
		t.Error("the kinds have other numbers")
	}
}

// P11.4: the second example of the chapter, and other edits that are chosen from the front.
func TestDiff(t *testing.T) {
	for _, c := range []struct{ old, now, want string }{
		{"a b c", "b c d", "-a =b =c +d"},
		{"a b", "b a", "-a =b +a"},
		{"", "", ""},
		{"a", "", "-a"},
		{"", "a b", "+a +b"},
		{"a b", "", "-a -b"},
		{"a", "b", "-a +b"},
		{"a b", "c d", "-a -b +c +d"},
		{"a x", "b x", "-a +b =x"},
		{"a b c", "a b c", "=a =b =c"},
		{"b", "a b", "+a =b"},
		{"a b", "b", "-a =b"},
		{"a", "a a", "=a +a"},
		{"a a", "a", "=a -a"},
		{"b a", "a a", "-b =a +a"},
		{"b c", "a b c", "+a =b =c"},
		{"x b c", "b y c b", "-x =b +y =c +b"},
		{"a b c d", "c d a b", "-a -b =c =d +a +b"},
		{"a b", "b c a b", "+b +c =a =b"},
		{"a b c", "c a b", "+c =a =b -c"},
	} {
		got, e := printer.Diff(strings.Fields(c.old), strings.Fields(c.now))
		if e != api.OK || !slices.Equal(got, edits(c.want)) {
			t.Errorf("Diff of %q and %q: %v, %d", c.old, c.now, got, e)
		}
	}
}

// P11.4: rows are any strings, and only equal ones are kept.
func TestDiffOfOddRows(t *testing.T) {
	old, now := []string{"", "a\nb", "A", " a"}, []string{"", "", "a", "b", "a\nb", "a"}
	want := []printer.Edit{keep(""), insert(""), insert("a"), insert("b"), keep("a\nb"), remove("A"), remove(" a"), insert("a")}
	if got, e := printer.Diff(old, now); e != api.OK || !slices.Equal(got, want) {
		t.Errorf("Diff: %v, %d", got, e)
	}
}

// P11.4: the third example of the chapter, and what else edits make of rows.
func TestApply(t *testing.T) {
	if got, e := printer.Apply([]string{"a"}, []printer.Edit{keep("b")}); e != api.ErrConflict || len(got) != 0 {
		t.Errorf("Apply of another Keep: %q, %d", got, e)
	}
	for _, c := range []struct{ old, edits, want string }{
		{"", "", ""},
		{"a", "=a", "a"},
		{"a", "-a", ""},
		{"a", "+b =a", "b a"},
		{"a", "=a +b", "a b"},
		{"", "+b +a +b", "b a b"},
		{"a b c", "-a =b =c +d", "b c d"},
		{"a b", "+a -a +b -b", "a b"},
		{"a a", "-a =a", "a"},
		{"a b c", "=a +x +y -b =c +z", "a x y c z"},
	} {
		got, e := printer.Apply(strings.Fields(c.old), edits(c.edits))
		if e != api.OK || !slices.Equal(got, strings.Fields(c.want)) {
			t.Errorf("Apply of %q to %q: %q, %d", c.edits, c.old, got, e)
		}
	}
}

// P11.4: Invert exchanges Insert and Delete, and leaves everything else.
func TestInvert(t *testing.T) {
	if got := printer.Invert(edits("-a =b +c +d -e")); !slices.Equal(got, edits("+a =b -c -d +e")) {
		t.Errorf("Invert: %v", got)
	}
	if got := printer.Invert(nil); len(got) != 0 {
		t.Errorf("Invert of no edits: %v", got)
	}
	odd := []printer.Edit{{Kind: 3, Text: "a"}, {Kind: -1, Text: "b"}}
	if got := printer.Invert(odd); !slices.Equal(got, odd) {
		t.Errorf("Invert of other kinds: %v", got)
	}
}

// shortest returns the edits that are defined, found among all edits: the fewest Delete and Insert, then from the front Keep before Delete before Insert.
func shortest(old, now []string) []printer.Edit {
	var best []printer.Edit
	found := false
	cost := func(list []printer.Edit) int {
		n := 0
		for _, e := range list {
			if e.Kind != printer.Keep {
				n++
			}
		}
		return n
	}
	var try func(old, now []string, so []printer.Edit)
	try = func(old, now []string, so []printer.Edit) {
		so = slices.Clip(so)
		if len(old) == 0 && len(now) == 0 && (!found || cost(so) < cost(best)) {
			best, found = so, true
		}
		if len(old) > 0 && len(now) > 0 && old[0] == now[0] {
			try(old[1:], now[1:], append(so, keep(old[0])))
		}
		if len(old) > 0 {
			try(old[1:], now, append(so, remove(old[0])))
		}
		if len(now) > 0 {
			try(old, now[1:], append(so, insert(now[0])))
		}
	}
	try(old, now, nil)
	return best
}

// allRows returns all lists of at most so many rows out of some.
func allRows(most int, rows ...string) [][]string {
	out := [][]string{nil}
	for first := 0; most > 0; most-- {
		end := len(out)
		for ; first < end; first++ {
			for _, r := range rows {
				out = append(out, append(slices.Clip(out[first]), r))
			}
		}
	}
	return out
}

// P11.4: Diff finds the shortest edits of all short rows.
func TestDiffOfAllShortRows(t *testing.T) {
	lists := allRows(4, "a", "b", "c")
	for _, old := range lists {
		for _, now := range lists {
			got, e := printer.Diff(old, now)
			if want := shortest(old, now); e != api.OK || !slices.Equal(got, want) {
				t.Fatalf("Diff of %q and %q: %v, %d, want %v", old, now, got, e, want)
			}
		}
	}
}

// P11.4: Apply does with all short edits what is defined, step by step.
func TestApplyOfAllShortEdits(t *testing.T) {
	for _, list := range allRows(5, "=a", "-a", "+a", "=b", "+b", "?a") {
		edits := edits(strings.Join(list, " "))
		for _, old := range allRows(3, "a", "b") {
			want, wrong := definedApply(old, list)
			got, e := printer.Apply(old, edits)
			if e != wrong || !slices.Equal(got, want) {
				t.Fatalf("Apply of %q to %q: %q, %d, want %q, %d", list, old, got, e, want, wrong)
			}
		}
	}
}

// definedApply returns what edits such as "=a" make of rows: those that they take must be all rows.
func definedApply(old, list []string) ([]string, api.Errno) {
	var taken, now []string
	for _, s := range list {
		if s[0] == '?' {
			return nil, api.ErrInvalid
		}
		if s[0] != '+' {
			taken = append(taken, s[1:])
		}
		if s[0] != '-' {
			now = append(now, s[1:])
		}
	}
	if !slices.Equal(taken, old) {
		return nil, api.ErrConflict
	}
	return now, api.OK
}

// common returns the length of the longest list of rows that two lists have in common in order.
func common(a, b []string) int {
	row := make([]int, len(b)+1)
	for _, x := range a {
		before := 0
		for j, y := range b {
			above := row[j+1]
			if x == y {
				row[j+1] = before + 1
			} else {
				row[j+1] = max(row[j+1], row[j])
			}
			before = above
		}
	}
	return row[len(b)]
}

// P11.4 and P11.5: long edits lead from old to new rows and back, and keep as many rows as possible.
func TestLongEdits(t *testing.T) {
	random := rand.New(rand.NewSource(11))
	for round := range 60 {
		sides := [2][]string{}
		kinds := 1 + random.Intn(1+round*3)
		for i := range sides {
			for range random.Intn(501) {
				sides[i] = append(sides[i], strconv.Itoa(random.Intn(kinds)))
			}
		}
		checkEdits(t, sides[0], sides[1])
	}
	full := slices.Repeat([]string{"a", "b"}, 250)
	checkEdits(t, full, full)
	checkEdits(t, full, full[1:])
	checkEdits(t, full, slices.Repeat([]string{"c"}, 500))
}

func checkEdits(t *testing.T, old, now []string) {
	t.Helper()
	edits, e := printer.Diff(old, now)
	if e != api.OK {
		t.Fatalf("Diff of %d and %d rows: %d", len(old), len(now), e)
	}
	kept := 0
	for _, edit := range edits {
		if edit.Kind == printer.Keep {
			kept++
		}
	}
	if most := common(old, now); kept != most || len(edits) != len(old)+len(now)-most {
		t.Errorf("Diff of %d and %d rows: %d edits, %d kept, want %d", len(old), len(now), len(edits), kept, most)
	}
	if got, e := printer.Apply(old, edits); e != api.OK || !slices.Equal(got, now) {
		t.Errorf("Apply of the edits of %d and %d rows: %d rows, %d", len(old), len(now), len(got), e)
	}
	if got, e := printer.Apply(now, printer.Invert(edits)); e != api.OK || !slices.Equal(got, old) {
		t.Errorf("Apply of the inverted edits of %d and %d rows: %d rows, %d", len(old), len(now), len(got), e)
	}
}

// P11.5: rows and themselves differ by nothing but Keep.
func TestDiffOfEqualRows(t *testing.T) {
	for _, rows := range append(allRows(4, "a", "b"), slices.Repeat([]string{"a", "b", "c", ""}, 125)) {
		got, e := printer.Diff(rows, slices.Clone(rows))
		if e != api.OK || len(got) != len(rows) {
			t.Fatalf("Diff of %q and itself: %v, %d", rows, got, e)
		}
		for i, edit := range got {
			if edit != keep(rows[i]) {
				t.Fatalf("Diff of %q and itself: %v", rows, got)
			}
		}
	}
}

// P1 and the Rules: arguments are neither modified nor kept.
func TestListsAreNotModified(t *testing.T) {
	old, now := strings.Fields("a b c d"), strings.Fields("b x d c")
	list, _ := printer.Diff(old, now)
	before := slices.Clone(list)
	back := printer.Invert(list)
	rows, _ := printer.Apply(old, list)
	rows[0] = "z"
	back[0].Text = "z"
	if !slices.Equal(old, strings.Fields("a b c d")) || !slices.Equal(now, strings.Fields("b x d c")) || !slices.Equal(list, before) {
		t.Errorf("arguments are modified: %q, %q, %v", old, now, list)
	}
	all, _ := printer.Apply(old, edits("=a =b =c =d"))
	all[0] = "z"
	if old[0] != "a" {
		t.Error("a result shares memory with an argument")
	}
}
