package cost_test

import (
	"slices"
	"testing"

	"redress/api"
	"redress/cost"
)

// What lies behind the end of a row that is handed in.
var spare = api.Node{Kind: api.Yield, Name: "spare", Sign: 5}

// asked is all that is told of l.
func asked(l []api.Node) [6]int {
	return [6]int{cost.Of(l), cost.Most(l), cost.Least(l), cost.Crashed(l, 0), cost.Crashed(l, 7), cost.Crashed(l, -1)}
}

func TestAskingLeavesTheRow(t *testing.T) {
	for _, words := range []string{"", "a", "yield", "alt a seq b c", "alt", "seq a", "a b c", "block par pair a alt b skip end-! c", "stack alt pair a b pair c d e", "pair ok a"} {
		was := tree(words)
		full := append(slices.Clone(was), spare, spare, spare)
		want := asked(was)
		// What lies behind the end is neither read nor written over.
		if got := asked(full[:len(was)]); got != want {
			t.Errorf("P15.1: of %s with room behind it %v is told, want %v", words, got, want)
		}
		if !slices.Equal(full, append(tree(words), spare, spare, spare)) || !slices.Equal(was, tree(words)) {
			t.Errorf("R5: %s was changed", words)
		}
		asked(tree("par a alt yield c"))
		if got := asked(was); got != want {
			t.Errorf("R7: of %s %v is told, and then %v", words, want, got)
		}
	}
}

// Where a row ends, nothing more of what it is part of is told.
func TestPartsOfARow(t *testing.T) {
	full := tree("seq alt a skip par b c")
	costs(t, full, 4, 4, 3)
	costs(t, full[:4], 2, 0, 0)
	costs(t, full[1:4], 2, 2, 1)
	costs(t, full[4:], 2, 2, 2)
	costs(t, full[4:6], 1, 0, 0)
}

// An empty list is as good as none.
func TestNoneAndEmpty(t *testing.T) {
	for _, l := range [][]api.Node{nil, {}, make([]api.Node, 0, 4), tree("a yield")[:0]} {
		costs(t, l, 0, 0, 0)
		crashed(t, l, 0, 1)
		crashed(t, l, 4, 5)
		crashed(t, l, 1<<20, 1<<20+1)
		crashed(t, l, -1, 0)
	}
}
