package row_test

import (
	"slices"
	"testing"

	"redress/api"
	"redress/row"
)

// What lies behind the end of a row that is handed in.
var spare = api.Node{Kind: api.Yield, Name: "spare", Sign: 5}

// roomy is l with room behind it; what lies in that room is not to be written over.
func roomy(l []api.Node) []api.Node {
	return append(slices.Clone(l), spare, spare, spare)[:len(l)]
}

func untouched(l, was []api.Node) bool {
	return slices.Equal(l[:len(was)+3], append(slices.Clone(was), spare, spare, spare))
}

// spoil writes into all that a row may reach.
func spoil(l []api.Node) {
	for k := range l[:cap(l)] {
		l[:cap(l)][k] = api.Node{Kind: -5, Name: "spoilt", Sign: 9}
	}
}

// some is rows of all shapes: trees, with and without more behind them, and none.
func some() [][]api.Node {
	return [][]api.Node{{}, {a}, {none}, {end, a}, {seq, a, b}, {seq, a}, {seq, end, a, par, b, skip}, {seq, a, b, over}, {block, pair, a, b, none}}
}

func TestAskingLeavesTheRow(t *testing.T) {
	for _, was := range some() {
		l, other, kinds := roomy(was), roomy(was), []int{api.Seq, api.Act, -3}
		row.Size(l)
		row.Whole(l)
		row.Depth(l)
		row.Count(l, kinds...)
		row.Same(l, other)
		row.Kids(l)
		if !untouched(l, was) || !untouched(other, was) || !slices.Equal(kinds, []int{api.Seq, api.Act, -3}) {
			t.Errorf("R5: %v was changed", was)
		}
	}
}

func TestKidsAreTheCallersOwn(t *testing.T) {
	for _, was := range some() {
		l := roomy(was)
		want := row.Kids(roomy(was))
		for k := range want {
			got := row.Kids(l)
			spoil(got[k])
			for j := range got {
				if j != k && !slices.Equal(got[j], want[j]) {
					t.Errorf("R6: Kids %d and %d of %v share memory", k, j, was)
				}
			}
			if !untouched(l, was) {
				t.Errorf("R6: to write into kid %d changed %v", k, was)
			}
		}
		got := row.Kids(l)
		spoil(l)
		if !sameRows(got, want) {
			t.Errorf("R6: Kids of %v changed with it", was)
		}
	}
}

func TestMakeIsTheCallersOwn(t *testing.T) {
	for _, x := range some() {
		for _, y := range some() {
			for count := range 3 {
				given := [][]api.Node{roomy(x), roomy(y)}
				want := row.Make(seq, slices.Clone(given[:count])...)
				got := row.Make(seq, given[:count]...)
				if !slices.Equal(got, want) || !untouched(given[0], x) || !untouched(given[1], y) {
					t.Errorf("R5: Make of %v and %v changed what was given", x, y)
				}
				spoil(got)
				if !untouched(given[0], x) || !untouched(given[1], y) {
					t.Errorf("R6: to write into what was made of %v and %v changed these", x, y)
				}
				got = row.Make(seq, given[:count]...)
				spoil(given[0])
				spoil(given[1])
				if !slices.Equal(got, want) {
					t.Errorf("R6: what was made of %v and %v changed with them", x, y)
				}
			}
		}
	}
}

func TestMakeLeavesTheListOfKids(t *testing.T) {
	kids := append([][]api.Node{{a}, {b}}, []api.Node{skip})
	for range 2 {
		if got := row.Make(seq, kids[:2]...); !slices.Equal(got, []api.Node{seq, a, b}) {
			t.Errorf("P3.3: Make = %v", got)
		}
	}
	if !sameRows(kids, [][]api.Node{{a}, {b}, {skip}}) {
		t.Errorf("R5: Make changed the list of kids to %v", kids)
	}
}

func TestOneRowTwice(t *testing.T) {
	l := roomy([]api.Node{end, a})
	first := row.Make(seq, l, l)
	second := row.Make(par, l, []api.Node{b})
	if !slices.Equal(first, []api.Node{seq, end, a, end, a}) || !slices.Equal(second, []api.Node{par, end, a, b}) || !untouched(l, []api.Node{end, a}) {
		t.Errorf("R6: of one row twice: %v, then %v", first, second)
	}
}
