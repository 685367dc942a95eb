package refuse_test

import (
	"slices"
	"testing"

	"redress/api"
	"redress/refuse"
)

// What lies behind the end of a row that is handed in.
var spare = api.Node{Kind: api.Act, Name: "spare", Sign: 5}

// roomy is l with room behind it; what lies in that room is not to be written over.
func roomy(l []api.Node) []api.Node {
	return append(slices.Clone(l), spare, spare, spare)[:len(l)]
}

func untouched(l, was []api.Node) bool {
	return slices.Equal(l[:len(was)+3], append(slices.Clone(was), spare, spare, spare))
}

// spoil writes into all that a row may reach.
func spoil(l []api.Node) {
	for k := range l[:cap(l)] {
		l[:cap(l)][k] = api.Node{Kind: -5, Name: "spoilt", Sign: 9}
	}
}

// calls is each call that rewrites a row, where it has something to do, and where it has nothing.
var calls = map[string]func(l []api.Node) []api.Node{
	"Rewrite of a":     func(l []api.Node) []api.Node { return refuse.Rewrite(l, "a") },
	"Rewrite of c":     func(l []api.Node) []api.Node { return refuse.Rewrite(l, "c") },
	"Rewrite of none":  func(l []api.Node) []api.Node { return refuse.Rewrite(l) },
	"Mark of the last": func(l []api.Node) []api.Node { return refuse.Mark(l, len(l)-1) },
	"Mark of the next": func(l []api.Node) []api.Node { return refuse.Mark(l, len(l)) },
	"Mark of -1":       func(l []api.Node) []api.Node { return refuse.Mark(l, -1) },
	"Strip":            refuse.Strip,
}

// some is rows of all shapes; behind some of them an Alt of an Act and a Throw would go on in the room.
var some = [][]api.Node{nil, {}, {a}, {alt}, {alt, b}, {seq, a, b}, {alt, a, throw}, {seq, a, alt, b, throw}, {alt, alt, a, throw, throw}, {noName, signedA, seqA, a}}

func TestRowsAreTheCallersOwn(t *testing.T) {
	for name, call := range calls {
		for _, was := range some {
			l := roomy(was)
			want := call(slices.Clone(was))
			got := call(l)
			again := call(l)
			if !untouched(l, was) {
				t.Errorf("R5: %s changed %v", name, was)
			}
			if !slices.Equal(got, want) || !slices.Equal(again, want) {
				t.Errorf("R7: %s of %v is %v, then %v, want %v", name, was, got, again, want)
			}
			spoil(got)
			if !untouched(l, was) || !slices.Equal(again, want) {
				t.Errorf("R6: to write into what %s told of %v changed something else", name, was)
			}
			spoil(l)
			if !slices.Equal(again, want) {
				t.Errorf("R6: what %s told of %v changed with that", name, was)
			}
		}
	}
}

func TestPlacesAreTheCallersOwn(t *testing.T) {
	was := nodes(a, seq, a, b)
	l := roomy(was)
	got, again := refuse.Places(l, "a"), refuse.Places(l, "a")
	if !untouched(l, was) {
		t.Errorf("R5: Places changed %v", was)
	}
	for k := range got[:cap(got)] {
		got[:cap(got)][k] = 77
	}
	spoil(l)
	if !slices.Equal(again, []int{0, 2}) {
		t.Errorf("R6: Places is not the caller's own: %v", again)
	}
}

func TestTheNamesStayAsTheyAre(t *testing.T) {
	full := []string{"b", "a", "b", "spare"}
	refuse.Rewrite(nodes(seq, a, b), full[:3]...)
	if !slices.Equal(full, []string{"b", "a", "b", "spare"}) {
		t.Errorf("R5: Rewrite changed the names to %q", full)
	}
}

// The room behind a row is no part of it.
func TestTheRoomIsNotRead(t *testing.T) {
	full := nodes(alt, a, throw)
	if got := refuse.Strip(full[:2]); !slices.Equal(got, nodes(alt, a)) {
		t.Errorf("P8.2: Strip reads behind the row: %v", got)
	}
	if got := refuse.Mark(full[:1], 1); !slices.Equal(got, nodes(alt)) {
		t.Errorf("P8.1: Mark reads behind the row: %v", got)
	}
}
