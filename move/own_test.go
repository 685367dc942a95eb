package move_test

import (
	"slices"
	"testing"

	"redress/api"
	"redress/move"
)

var spare = api.Node{Kind: api.Yield, Name: "spare", Sign: 5}

// roomy is l with room behind it; what lies in that room is neither to be read nor written over.
func roomy(l []api.Node) []api.Node {
	return append(slices.Clone(l), spare, spare, spare)[:len(l)]
}

func untouched(l, was []api.Node) bool {
	return slices.Equal(l[:len(was)+3], append(slices.Clone(was), spare, spare, spare))
}

// some is rows that have moves, and others.
func some() [][]api.Node {
	l := slices.Clone(wrong)
	for _, c := range known {
		l = append(l, tree(c.words))
	}
	for _, words := range none {
		l = append(l, tree(words))
	}
	return l
}

func TestAskingLeavesTheRow(t *testing.T) {
	for _, was := range some() {
		l := roomy(was)
		move.Enabled(l)
		for k := -1; k <= len(l); k++ {
			move.Is(l, api.Move{At: k, How: api.Go})
			move.Pick(l, k)
		}
		if !untouched(l, was) {
			t.Errorf("R5: %s was changed to %v", text(was), l[:len(was)+3])
		}
	}
}

func TestMovesAreTheCallersOwn(t *testing.T) {
	for _, was := range some() {
		l := roomy(was)
		want := slices.Clone(move.Enabled(was))
		got, again := move.Enabled(l), move.Enabled(l)
		for k := range got[:cap(got)] {
			got[:cap(got)][k] = api.Move{At: -7, How: -7}
		}
		if !slices.Equal(again, want) || !slices.Equal(move.Enabled(l), want) || !untouched(l, was) {
			t.Errorf("R6: to write into the moves of %s changed something else", text(was))
		}
		// The row, written into, changes nothing that was told.
		for k := range l {
			l[k] = spare
		}
		if !slices.Equal(again, want) {
			t.Errorf("R6: the moves of %s changed with the row", text(was))
		}
	}
}

func TestTheSameIsToldAgain(t *testing.T) {
	for _, l := range some() {
		for range 5 {
			first, e := move.Pick(l, 1)
			if again, f := move.Pick(l, 1); first != again || e != f || !slices.Equal(move.Enabled(l), move.Enabled(l)) {
				t.Errorf("R7: of %s another thing is told the second time", text(l))
			}
		}
	}
}

// An empty list is as good as none.
func TestNoneAndEmpty(t *testing.T) {
	for _, l := range [][]api.Node{nil, {}, make([]api.Node, 0, 4), tree("a yield")[:0]} {
		has(t, l, nil)
	}
}
