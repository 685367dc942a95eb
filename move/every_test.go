package move_test

import (
	"slices"
	"strings"
	"testing"

	"redress/api"
	"redress/doom"
	"redress/move"
	"redress/settle"
	"redress/sort"
)

// may tells, by the document's sentence, whether the node at a place of l may be moved so.
func may(l []api.Node, at, how int) bool {
	if !slices.Contains(doom.Active(l), at) {
		return false
	}
	switch how {
	case api.Do:
		return l[at].Kind == api.Act
	case api.Left, api.Right:
		return l[at].Kind == api.Alt
	case api.Go:
		return l[at].Kind == api.Yield || l[at].Kind == api.Pair
	}
	return how == api.Stop && may(l, at, api.Go) && doom.Free(l, at)
}

// reading is all moves of l, each place and each way tried in turn.
func reading(l []api.Node) []api.Move {
	var all []api.Move
	for at := range l {
		for how := api.Do; how <= api.Stop; how++ {
			if may(l, at, how) {
				all = append(all, api.Move{At: at, How: how})
			}
		}
	}
	return all
}

// The words that have no tree behind them, those that have one, and those that have two.
var (
	leaves = []string{"a", "skip", "throw", "yield", "ok", "!", "?"}
	ones   = []string{"block", "end-ok", "end-!", "end-?"}
	twos   = []string{"seq", "alt", "par", "hand", "pair", "going", "stack"}
)

// grown is all trees of up to so many nodes that are, or go on, plain or paired, of these words: what is of no sort is left out, as no tree of a sort has it.
func grown(most int, leaves, ones, twos []string) []string {
	bySize := [][]string{nil}
	for long := 1; long <= most; long++ {
		var l []string
		keep := func(words string) {
			if sort.Of(tree(words)) != sort.None {
				l = append(l, words)
			}
		}
		if long == 1 {
			l = slices.Clone(leaves)
		}
		for _, x := range bySize[long-1] {
			for _, word := range ones {
				keep(word + " " + x)
			}
		}
		for left := 1; left < long-1; left++ {
			for _, x := range bySize[left] {
				for _, y := range bySize[long-1-left] {
					for _, word := range twos {
						keep(word + " " + x + " " + y)
					}
				}
			}
		}
		bySize = append(bySize, l)
	}
	return slices.Concat(bySize...)
}

// everyTree is all trees of up to 5 nodes, longer ones of few words, and in a block, alone and beside what has thrown, those of them that may be.
func everyTree() [][]api.Node {
	all := slices.Concat(
		grown(5, leaves, ones, twos),
		grown(7, []string{"a", "!"}, []string{"block", "end-!"}, []string{"par", "pair", "going"}),
		grown(7, []string{"yield"}, []string{"block", "end-!"}, []string{"par", "alt", "hand", "pair"}),
		grown(7, []string{"yield", "!"}, []string{"block", "end-?"}, []string{"par", "seq", "stack", "going"}),
	)
	var l [][]api.Node
	for _, words := range all {
		l = append(l, tree(words))
		if sort.On(tree(words), true) {
			l = append(l, tree("block "+words), tree("block par end-! a "+words))
		}
	}
	return l
}

// chance is a row of numbers that is always the same.
type chance uint32

func (by *chance) below(n int) int {
	*by = *by*1664525 + 1013904223
	return int(*by>>8) % n
}

// X stands for what goes on plain, and P for what goes on paired.
var (
	plainly = []string{"a", "yield", "alt yield a", "!", "?", "par X X", "par X X", "seq X yield", "hand X throw", "block P", "block P", "block par P P"}
	pairly  = []string{"pair a b", "alt pair a b pair c yield", "going X b", "going X yield", "end-! c", "end-ok a", "end-? b", "par P P", "par P P", "seq P pair yield c", "stack P throw"}
)

// tell is such words by chance, so deep at most.
func (by *chance) tell(from []string, deep int) string {
	if deep == 0 {
		from = from[:2]
	}
	words := strings.Fields(from[by.below(len(from))])
	for k, word := range words {
		switch word {
		case "X":
			words[k] = by.tell(plainly, deep-1)
		case "P":
			words[k] = by.tell(pairly, deep-1)
		}
	}
	return strings.Join(words, " ")
}

// byChance is what comes of so many trees by chance, plain and paired, each so deep at most.
func byChance(count, deep int) [][]api.Node {
	by := chance(12)
	var l [][]api.Node
	for k := range count {
		from := plainly
		if k%2 == 1 {
			from = pairly
		}
		if x := settle.Settle(tree(by.tell(from, deep))); len(x) > 3 {
			l = append(l, x)
		}
	}
	return l
}

// all is the trees that are tried, short and long.
func all() [][]api.Node {
	return slices.Concat(everyTree(), byChance(3000, 5), byChance(2000, 8))
}

func TestEveryTree(t *testing.T) {
	count := map[int]int{}
	kept := 0
	for _, l := range all() {
		want := reading(l)
		if got := move.Enabled(l); !slices.Equal(got, want) {
			t.Fatalf("P12.1: Enabled(%s) = %v, want %v", text(l), got, want)
		}
		for _, m := range want {
			count[m.How]++
			if m.How == api.Go && !slices.Contains(want, api.Move{At: m.At, How: api.Stop}) {
				kept++
			}
		}
	}
	for how := api.Do; how <= api.Stop; how++ {
		if count[how] < 1000 || kept < 1000 {
			t.Errorf("only %d moves of the How %d were tried, and %d places at which none may stop", count[how], how, kept)
		}
	}
}

// Of each of these, all that may be asked.
func TestEveryShortTree(t *testing.T) {
	for _, words := range grown(5, []string{"a", "yield", "!"}, ones, twos) {
		for _, l := range [][]api.Node{tree(words), tree("par ! " + words), tree("block " + words), tree("block par end-! a " + words)} {
			has(t, l, reading(l))
		}
	}
}

// All rows of a few words: most of them are no trees, and of the trees most are of no sort.
func TestEveryRow(t *testing.T) {
	words := []string{"a", "yield", "!", "block", "end-!", "seq", "par", "alt", "pair", "going", "stack"}
	rows := []string{""}
	for range 5 {
		var next []string
		for _, row := range rows {
			for _, word := range words {
				next = append(next, strings.TrimSpace(row+" "+word))
			}
		}
		for _, row := range next {
			l := tree(row)
			got := move.Enabled(l)
			if !slices.Equal(got, reading(l)) || len(got) > 0 && !settle.Settled(l) {
				t.Fatalf("P12.1: Enabled(%s) = %v, want %v", row, got, reading(l))
			}
		}
		rows = next
	}
}
