package cost_test

import (
	"slices"
	"strings"
	"testing"

	"redress/api"
	"redress/cost"
	"redress/sort"
)

// told is, by the document's sentence, how many moves at most, and with the lesser ones at least, are done from the tree on with which the words begin; and the words behind it.
func told(words []string) (most, least int, rest []string) {
	first, rest := words[0], words[1:]
	var mosts, leasts [2]int
	for k := range arities[first] {
		mosts[k], leasts[k], rest = told(rest)
	}
	switch first {
	case "skip", "throw", "ok", "!", "?":
		return 0, 0, rest
	case "alt":
		return 1 + max(mosts[0], mosts[1]), 1 + min(leasts[0], leasts[1]), rest
	case "seq", "par", "hand", "going", "stack":
		return mosts[0] + mosts[1], leasts[0] + leasts[1], rest
	case "pair":
		return mosts[0] + mosts[1] + 1, leasts[0] + leasts[1] + 1, rest
	case "block", "end-ok", "end-!", "end-?":
		return mosts[0], leasts[0], rest
	}
	return 1, 1, rest
}

// costsAsTold holds what is told of l against the document's sentences.
func costsAsTold(t *testing.T, l []api.Node) (most, least int) {
	t.Helper()
	words := strings.Fields(text(l))
	of := 0
	for _, word := range words {
		if word != "skip" && word != "throw" && nodes[word].Sign == 0 && (arities[word] == 0 || word == "alt" || word == "pair") {
			of++
		}
	}
	if sort.On(l, false) || sort.On(l, true) {
		most, least, _ = told(words)
	}
	costs(t, l, of, most, least)
	crashed(t, l, 0, of+1)
	crashed(t, l, 6, 7*of+7)
	return most, least
}

// The words that have no tree behind them, those that have one, and those that have two.
var (
	leaves = []string{"a", "skip", "throw", "yield", "ok", "!", "?"}
	ones   = []string{"block", "end-ok", "end-!", "end-?"}
	twos   = []string{"seq", "alt", "par", "hand", "pair", "going", "stack"}
)

// grown is all trees of up to so many nodes that are, or go on, plain or paired, of these words: what is of no sort is left out, as no tree of a sort has it.
func grown(most int, leaves, ones, twos []string) []string {
	bySize := [][]string{nil}
	for long := 1; long <= most; long++ {
		var l []string
		keep := func(words string) {
			if sort.Of(tree(words)) != sort.None {
				l = append(l, words)
			}
		}
		if long == 1 {
			l = slices.Clone(leaves)
		}
		for _, x := range bySize[long-1] {
			for _, word := range ones {
				keep(word + " " + x)
			}
		}
		for left := 1; left < long-1; left++ {
			for _, x := range bySize[left] {
				for _, y := range bySize[long-1-left] {
					for _, word := range twos {
						keep(word + " " + x + " " + y)
					}
				}
			}
		}
		bySize = append(bySize, l)
	}
	return slices.Concat(bySize...)
}

// everyTree is all trees of up to 5 nodes, and longer ones of few words.
func everyTree() [][]api.Node {
	var l [][]api.Node
	for _, words := range slices.Concat(
		grown(5, leaves, ones, twos),
		grown(7, []string{"a", "!"}, []string{"block", "end-!"}, []string{"par", "pair", "going"}),
		grown(7, []string{"yield"}, []string{"block", "end-!"}, []string{"par", "alt", "hand", "pair"}),
		grown(7, []string{"a", "throw"}, []string{"block", "end-?"}, []string{"seq", "stack", "going"}),
		grown(7, []string{"a", "skip"}, nil, []string{"alt", "seq"}),
	) {
		l = append(l, tree(words))
	}
	return l
}

func TestEveryTree(t *testing.T) {
	paired, between := 0, 0
	for _, l := range everyTree() {
		most, least := costsAsTold(t, l)
		if most > least {
			between++
		}
		if sort.On(l, true) {
			paired++
		}
	}
	if paired < 1000 || between < 1000 {
		t.Errorf("only %d paired trees, and %d whose Most is not their Least, were tried", paired, between)
	}
}

// All rows of up to 4 words, and of up to 6 of a few: most of them are no trees, or of no sort.
func TestEveryRow(t *testing.T) {
	trees := 0
	for most, words := range map[int][]string{4: slices.Concat(leaves, ones, twos), 6: {"a", "ok", "alt", "pair", "block"}} {
		rows := [][]api.Node{nil}
		for range most {
			var next [][]api.Node
			for _, row := range rows {
				for _, word := range words {
					l := append(slices.Clone(row), tree(word)...)
					if most, _ := costsAsTold(t, l); most > 0 {
						trees++
					}
					next = append(next, l)
				}
			}
			rows = next
		}
	}
	if trees < 300 {
		t.Errorf("only %d rows from which something is done on were tried", trees)
	}
}

// Each kind by its number, alone and in front of what may stand behind it.
func TestEveryKind(t *testing.T) {
	for kind := -20; kind <= 300; kind++ {
		of := 0
		switch kind {
		case api.Act, api.Alt, api.Yield, api.Pair:
			of = 1
		}
		for many := range 4 {
			if got := cost.Of(slices.Repeat([]api.Node{{Kind: kind, Name: "a"}}, many)); got != many*of {
				t.Errorf("P15.1: Of %d nodes of the kind %d = %d, want %d", many, kind, got, many*of)
			}
		}
	}
}
