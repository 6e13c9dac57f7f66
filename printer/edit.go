package printer

import (
	"slices"

	"gangsaw/api"
)

// The kinds of edits.
const (
	Keep   = 0
	Delete = 1
	Insert = 2
)

// maxRows is the greatest number of rows that are compared.
const maxRows = 500

// Edit keeps or deletes a line of the old source, or inserts one of the new source.
type Edit struct {
	Kind int
	Text string
}

// Diff returns the shortest edits that lead from rows to other rows.
func Diff(old, now []string) ([]Edit, api.Errno) {
	if len(old) > maxRows || len(now) > maxRows {
		return nil, api.ErrTooMany
	}
	fewest := countEdits(old, now)
	var edits []Edit
	i, j := 0, 0
	for i < len(old) || j < len(now) {
		switch {
		case i < len(old) && j < len(now) && old[i] == now[j]:
			edits = append(edits, Edit{Kind: Keep, Text: old[i]})
			i++
			j++
		case j == len(now) || i < len(old) && fewest[i+1][j] < fewest[i][j]:
			edits = append(edits, Edit{Kind: Delete, Text: old[i]})
			i++
		default:
			edits = append(edits, Edit{Kind: Insert, Text: now[j]})
			j++
		}
	}
	return edits, api.OK
}

// Apply returns the rows that edits make of rows.
func Apply(old []string, edits []Edit) ([]string, api.Errno) {
	for _, edit := range edits {
		if edit.Kind < Keep || edit.Kind > Insert {
			return nil, api.ErrInvalid
		}
	}
	var now []string
	for _, edit := range edits {
		if edit.Kind != Insert {
			if len(old) == 0 || old[0] != edit.Text {
				return nil, api.ErrConflict
			}
			old = old[1:]
		}
		if edit.Kind != Delete {
			now = append(now, edit.Text)
		}
	}
	if len(old) > 0 {
		return nil, api.ErrConflict
	}
	return now, api.OK
}

// Invert returns the edits that lead back.
func Invert(edits []Edit) []Edit {
	back := slices.Clone(edits)
	for i, edit := range edits {
		switch edit.Kind {
		case Delete:
			back[i].Kind = Insert
		case Insert:
			back[i].Kind = Delete
		}
	}
	return back
}

// countEdits returns, for all i and j, the fewest rows that are deleted or inserted on the way from old[i:] to now[j:].
func countEdits(old, now []string) [][]int {
	fewest := make([][]int, len(old)+1)
	for i := len(old); i >= 0; i-- {
		fewest[i] = make([]int, len(now)+1)
		for j := len(now); j >= 0; j-- {
			switch {
			case i == len(old):
				fewest[i][j] = len(now) - j
			case j == len(now):
				fewest[i][j] = len(old) - i
			case old[i] == now[j]:
				fewest[i][j] = fewest[i+1][j+1]
			default:
				fewest[i][j] = 1 + min(fewest[i+1][j], fewest[i][j+1])
			}
		}
	}
	return fewest
}
