package plot_test

import (
	"slices"
	"testing"

	"redress/api"
	"redress/plot"
)

// What lies behind the end of a row that is handed in: with one more, a row cut short would be a tree.
var spare = api.Node{Kind: api.Act, Name: "spare", Sign: 5}

// roomy is l with room behind it; what lies in that room is neither to be read nor written over.
func roomy(l []api.Node) []api.Node {
	return append(slices.Clone(l), spare, spare, spare)[:len(l)]
}

func untouched(l, was []api.Node) bool {
	return slices.Equal(l[:len(was)+3], append(slices.Clone(was), spare, spare, spare))
}

// some is rows of all shapes: the known trees, and rows that are none.
func some() [][]api.Node {
	l := slices.Clone(noTrees)
	for _, c := range known {
		l = append(l, c.l)
	}
	return l
}

func TestAskingLeavesTheRow(t *testing.T) {
	for _, was := range some() {
		l := roomy(was)
		plot.Points(l)
		plot.Lines(l)
		plot.Box(l)
		plot.At(l, 1i)
		for k := -1; k <= len(l); k++ {
			plot.Over(l, k)
		}
		if !untouched(l, was) {
			t.Errorf("R5: %v was changed", was)
		}
	}
}

// spoil writes into all that a list may reach.
func spoil[E any](l []E, with E) {
	for k := range l[:cap(l)] {
		l[:cap(l)][k] = with
	}
}

func isOwn[E comparable](t *testing.T, name string, was []api.Node, with E, ask func(l []api.Node) []E) {
	t.Helper()
	l := roomy(was)
	want := slices.Clone(ask(slices.Clone(was)))
	got, again := ask(l), ask(l)
	if !slices.Equal(got, want) || !slices.Equal(again, want) {
		t.Errorf("R7: %s of %v is %v, then %v, want %v", name, was, got, again, want)
	}
	spoil(got, with)
	if !slices.Equal(again, want) || !slices.Equal(ask(l), want) || !untouched(l, was) {
		t.Errorf("R6: to write into what %s told of %v changed something else", name, was)
	}
	spoil(l, spare)
	if !slices.Equal(again, want) {
		t.Errorf("R6: what %s told of %v changed with that", name, was)
	}
}

func TestListsAreTheCallersOwn(t *testing.T) {
	for _, was := range some() {
		isOwn(t, "Points", was, -7-7i, plot.Points)
		isOwn(t, "Lines", was, [2]complex128{-7, -7i}, plot.Lines)
		for k := -1; k <= len(was); k++ {
			isOwn(t, "Over", was, -7, func(l []api.Node) []int { return plot.Over(l, k) })
		}
	}
}

func TestTheSameIsToldAgain(t *testing.T) {
	for _, was := range some() {
		l := roomy(was)
		for _, p := range []complex128{0, 1i, 1 + 1i, 3} {
			at, is := plot.At(was, p)
			if again, still := plot.At(l, p); again != at || still != is {
				t.Errorf("R7: At(%v, %v) = %d, %v, then %d, %v", was, p, at, is, again, still)
			}
		}
		if box := plot.Box(was); plot.Box(l) != box {
			t.Errorf("R7: Box(%v) = %v, then %v", was, box, plot.Box(l))
		}
	}
}
