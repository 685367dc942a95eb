package runs_test

import (
	"slices"
	"strings"
	"testing"

	"redress/api"
	"redress/runs"
	"redress/trace"
)

// What lies behind the end of a row that is handed in.
var spare = api.Node{Kind: api.Yield, Name: "spare", Sign: 5}

// roomy is l with room behind it; what lies in that room is neither to be read nor written over.
func roomy[T any](l []T, spare T) []T {
	return append(slices.Clone(l), spare, spare, spare)[:len(l)]
}

// untouched tells whether l, with the room behind it, is as roomy made it.
func untouched[T comparable](l, was []T, spare T) bool {
	return slices.Equal(l[:len(was)+3], append(slices.Clone(was), spare, spare, spare))
}

// spoil writes into all that a list may reach.
func spoil[T any](l []T, with T) {
	l = l[:cap(l)]
	for k := range l {
		l[k] = with
	}
}

// rows is rows of all sorts, and what is none.
func rows(t *testing.T) [][]api.Node {
	l := [][]api.Node{nil, {overBang}, {pair, a, b}, {seq, skip, a}, {seq, a}, {block, endQuery, a}}
	for term := range means {
		l = append(l, begun(t, term))
	}
	return l
}

func TestPlayedIsTheCallersOwn(t *testing.T) {
	for _, was := range rows(t) {
		for _, numbers := range [][]int{nil, {0}, {1, 0}, {0, 0, 0, 0}} {
			l, picks := roomy(was, spare), roomy(numbers, -9)
			want := runs.Play(slices.Clone(was), slices.Clone(numbers)...)
			row, did := text(want.L), strings.Join(want.A, " ")
			got, again := runs.Play(l, picks...), runs.Play(l, picks...)
			spoil(got.L, spare)
			spoil(got.A, "spoilt")
			if !untouched(l, was, spare) || !untouched(picks, numbers, -9) {
				t.Errorf("R5: Play(%s, %v), or to write into what it told, changed what was given", text(was), numbers)
			}
			isRun(t, l, picks, row, did, want.N)
			spoil(l, spare)
			spoil(picks, 1)
			if text(again.L) != row || strings.Join(again.A, " ") != did || again.N != want.N {
				t.Errorf("R6, R7: what Play(%s, %v) told the second time is another thing, or changed with the first one", text(was), numbers)
			}
		}
	}
}

func TestTraceIsTheCallersOwn(t *testing.T) {
	was := []string{"a", "b", "a"}
	did := roomy(was, "spare")
	r := runs.Run{L: []api.Node{overOK}, A: did, N: 3}
	got, _ := runs.Trace(r)
	again, _ := runs.Trace(r)
	spoil(got.A, "spoilt")
	if !untouched(did, was, "spare") || !slices.Equal(again.A, was) || r.L[0] != overOK || r.N != 3 {
		t.Errorf("R5, R6: to write into a Trace changed something else: %v, %v", did, again.A)
	}
	spoil(did, "spoilt")
	if !slices.Equal(again.A, was) {
		t.Error("R6: a Trace changed with the Run")
	}
}

func TestAllIsTheCallersOwn(t *testing.T) {
	for _, was := range rows(t) {
		l := roomy(was, spare)
		all, _ := runs.All(slices.Clone(was))
		want := texts(all)
		got, _ := runs.All(l)
		again, _ := runs.All(l)
		for k, x := range got {
			// To write into one trace leaves the others as they are.
			spoil(x.A, "spoilt")
			if told := texts(got[k+1:]); !slices.Equal(told, want[k+1:]) {
				t.Errorf("R6: traces of All(%s) share something", text(was))
			}
		}
		spoil(got, trace.Trace{End: 9})
		if !untouched(l, was, spare) || !slices.Equal(texts(again), want) {
			t.Errorf("R5, R6: to write into All(%s) changed something else", text(was))
		}
		spoil(l, spare)
		if !slices.Equal(texts(again), want) {
			t.Errorf("R6: All(%s) changed with the row", text(was))
		}
	}
}

func TestFoundIsTheCallersOwn(t *testing.T) {
	for _, was := range rows(t) {
		all, _ := runs.All(was)
		for _, x := range append(all, trace.Trace{A: []string{"z"}, End: api.Tick}) {
			l, did := roomy(was, spare), roomy(x.A, "spare")
			y := trace.Trace{A: did, End: x.End}
			want, found := runs.Find(slices.Clone(was), x)
			want = slices.Clone(want)
			got, _ := runs.Find(l, y)
			again, is := runs.Find(l, y)
			spoil(got, -9)
			if !untouched(l, was, spare) || !untouched(did, x.A, "spare") {
				t.Errorf("R5: Find(%s, %s), or to write into what it told, changed what was given", text(was), trace.Text(x))
			}
			spoil(l, spare)
			spoil(did, "spoilt")
			if is != found || !slices.Equal(again, want) {
				t.Errorf("R6, R7: Find(%s, %s) told %v, want %v", text(was), trace.Text(x), again, want)
			}
		}
	}
}

// An empty list is as good as none.
func TestNoneAndEmpty(t *testing.T) {
	for _, l := range [][]api.Node{nil, {}, make([]api.Node, 0, 4), rows(t)[1][:0]} {
		isRun(t, l, nil, "", "", 0)
		isRun(t, l, []int{0}, "", "", 0)
		isNotTold(t, l, api.ErrArg)
	}
	for _, picks := range [][]int{nil, {}, make([]int, 0, 4)} {
		isRun(t, []api.Node{a}, picks, "a", "", 0)
	}
	for _, did := range [][]string{nil, {}, make([]string, 0, 4)} {
		if picks, is := runs.Find([]api.Node{yield}, trace.Trace{A: did, End: api.Query}); !is || !slices.Equal(picks, []int{1}) {
			t.Errorf("R3: Find(yield, ?) = %v, %v", picks, is)
		}
		if x, ended := runs.Trace(runs.Run{L: []api.Node{overOK}, A: did}); !ended || len(x.A) != 0 || x.End != api.Tick {
			t.Errorf("R3: Trace of no actions is %v, %v", x, ended)
		}
	}
}
