package doom_test

import (
	"slices"
	"testing"

	"redress/api"
	"redress/doom"
)

var spare = api.Node{Kind: api.Yield, Name: "spare", Sign: 5}

// roomy is l with room behind it; what lies in that room is neither to be read nor written over.
func roomy(l []api.Node) []api.Node {
	return append(slices.Clone(l), spare, spare, spare)[:len(l)]
}

func untouched(l, was []api.Node) bool {
	return slices.Equal(l[:len(was)+3], append(slices.Clone(was), spare, spare, spare))
}

// some is rows that are settled, and others.
func some() [][]api.Node {
	var l [][]api.Node
	for _, c := range known {
		l = append(l, tree(c.words))
	}
	for _, words := range unsettled {
		l = append(l, tree(words))
	}
	return l
}

// spoil writes into all that a row may reach.
func spoil(l []api.Node) {
	l = l[:cap(l)]
	for k := range l {
		l[k] = spare
	}
}

func TestAskingLeavesTheRow(t *testing.T) {
	for _, was := range some() {
		l := roomy(was)
		doom.Active(l)
		doom.Doomed(l)
		for at := -1; at <= len(l); at++ {
			doom.Beside(l, at)
			doom.Free(l, at)
		}
		if !untouched(l, was) {
			t.Errorf("R5: %s was changed to %v", text(was), l[:len(was)+3])
		}
	}
}

func TestPlacesAreTheCallersOwn(t *testing.T) {
	for _, was := range some() {
		l := roomy(was)
		want := slices.Clone(doom.Active(was))
		got, again := doom.Active(l), doom.Active(l)
		for k := range got[:cap(got)] {
			got[:cap(got)][k] = -7
		}
		if !slices.Equal(again, want) || !slices.Equal(doom.Active(l), want) || !untouched(l, was) {
			t.Errorf("R6: to write into what Active told of %s changed something else", text(was))
		}
	}
}

func TestWhatStandsBesideIsTheCallersOwn(t *testing.T) {
	for _, was := range some() {
		for _, at := range doom.Active(was) {
			l := roomy(was)
			want := texts(doom.Beside(was, at))
			got, again := doom.Beside(l, at), doom.Beside(l, at)
			// One of them, written into, changes neither the others nor the row.
			for k := range got {
				spoil(got[k])
				if !slices.Equal(texts(got[k+1:]), want[k+1:]) {
					t.Errorf("R6: to write into one of Beside(%s, %d) changed another one", text(was), at)
				}
			}
			if !untouched(l, was) {
				t.Errorf("R6: to write into Beside(%s, %d) changed the row", text(was), at)
			}
			if !slices.Equal(texts(again), want) || !slices.Equal(texts(doom.Beside(l, at)), want) {
				t.Errorf("R6, R7: Beside(%s, %d) is %q, then %q, want %q", text(was), at, texts(again), texts(doom.Beside(l, at)), want)
			}
			// The row, written into, changes nothing that was told.
			spoil(l)
			if !slices.Equal(texts(again), want) {
				t.Errorf("R6: Beside(%s, %d) changed with the row", text(was), at)
			}
		}
	}
}

func TestTheSameIsToldAgain(t *testing.T) {
	for _, l := range some() {
		active, doomed, free := doom.Active(l), doom.Doomed(l), freeOf(l)
		if !slices.Equal(doom.Active(l), active) || doom.Doomed(l) != doomed || !slices.Equal(freeOf(l), free) {
			t.Errorf("R7: of %s another thing is told the second time", text(l))
		}
	}
}

// An empty list is as good as none.
func TestNoneAndEmpty(t *testing.T) {
	for _, l := range [][]api.Node{nil, {}, make([]api.Node, 0, 4), tree("a a")[:0]} {
		isUntold(t, l)
	}
}
