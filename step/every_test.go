package step_test

import (
	"slices"
	"strings"
	"testing"

	"redress/api"
	"redress/move"
	"redress/row"
	"redress/settle"
	"redress/sort"
	"redress/step"
)

// nest is a tree as its first node, and the trees behind that.
type nest struct {
	n    api.Node
	kids []nest
}

// read is the tree with which l begins, and what is behind it.
func read(l []api.Node) (nest, []api.Node) {
	x := nest{n: l[0]}
	l = l[1:]
	for range row.Arity(x.n.Kind) {
		var kid nest
		kid, l = read(l)
		x.kids = append(x.kids, kid)
	}
	return x, l
}

// flat is x as a row.
func (x nest) flat() []api.Node {
	l := []api.Node{x.n}
	for _, kid := range x.kids {
		l = append(l, kid.flat()...)
	}
	return l
}

// all is x, and all trees within it, in the order of their first nodes.
func (x nest) all() []nest {
	l := []nest{x}
	for _, kid := range x.kids {
		l = append(l, kid.all()...)
	}
	return l
}

// with is x, of which y stands in the place of the tree of that number of all, and what is left of the number to be counted behind x; below 0, if y was put.
func (x nest) with(number int, y nest) (nest, int) {
	if number <= 0 {
		if number == 0 {
			x = y
		}
		return x, -1
	}
	number--
	made := nest{n: x.n}
	for _, kid := range x.kids {
		kid, number = kid.with(number, y)
		made.kids = append(made.kids, kid)
	}
	return made, number
}

func leaf(kind, sign int) nest {
	return nest{n: api.Node{Kind: kind, Sign: sign}}
}

// placed is, by the document's sentence, what stands in the place of x behind a move that is done there so.
func placed(x nest, how int) nest {
	switch [2]int{how, x.n.Kind} {
	case [2]int{api.Do, api.Act}, [2]int{api.Go, api.Yield}:
		return leaf(api.Over, api.Tick)
	case [2]int{api.Left, api.Alt}:
		return x.kids[0]
	case [2]int{api.Right, api.Alt}:
		return x.kids[1]
	case [2]int{api.Go, api.Pair}:
		return nest{n: api.Node{Kind: api.Going}, kids: x.kids}
	case [2]int{api.Stop, api.Yield}:
		return leaf(api.Over, api.Query)
	case [2]int{api.Stop, api.Pair}:
		return nest{n: api.Node{Kind: api.End, Sign: api.Query}, kids: []nest{leaf(api.Skip, 0)}}
	}
	panic("no such move")
}

// behind is what comes of l where y stands in that place.
func behind(l []api.Node, at int, y nest) []api.Node {
	x, _ := read(l)
	made, _ := x.with(at, y)
	return settle.Settle(made.flat())
}

// comes is, by the document's sentence, what comes of l by the move m, and the action that is done.
func comes(l []api.Node, m api.Move) (next []api.Node, act string) {
	x, _ := read(l)
	old := x.all()[m.At]
	if m.How == api.Do {
		act = old.n.Name
	}
	return behind(l, m.At, placed(old, m.How)), act
}

// The words that have no tree behind them, those that have one, and those that have two.
var (
	leaves = []string{"a", "skip", "throw", "yield", "ok", "!", "?"}
	ones   = []string{"block", "end-ok", "end-!", "end-?"}
	twos   = []string{"seq", "alt", "par", "hand", "pair", "going", "stack"}
)

// grown is all trees of up to so many nodes that are, or go on, plain or paired, of these words: what is of no sort is left out, as no tree of a sort has it.
func grown(most int, leaves, ones, twos []string) []string {
	bySize := [][]string{nil}
	for long := 1; long <= most; long++ {
		var l []string
		keep := func(words string) {
			if sort.Of(tree(words)) != sort.None {
				l = append(l, words)
			}
		}
		if long == 1 {
			l = slices.Clone(leaves)
		}
		for _, x := range bySize[long-1] {
			for _, word := range ones {
				keep(word + " " + x)
			}
		}
		for left := 1; left < long-1; left++ {
			for _, x := range bySize[left] {
				for _, y := range bySize[long-1-left] {
					for _, word := range twos {
						keep(word + " " + x + " " + y)
					}
				}
			}
		}
		bySize = append(bySize, l)
	}
	return slices.Concat(bySize...)
}

// everyTree is all trees of up to 5 nodes, longer ones of few words, and in a block, alone and beside what has thrown, those of them that may be.
func everyTree() [][]api.Node {
	all := slices.Concat(
		grown(5, leaves, ones, twos),
		grown(7, []string{"a", "!"}, []string{"block", "end-!"}, []string{"par", "pair", "going"}),
		grown(7, []string{"yield"}, []string{"block", "end-!"}, []string{"par", "alt", "hand", "pair"}),
		grown(7, []string{"a", "throw"}, []string{"block", "end-?"}, []string{"seq", "stack", "going"}),
	)
	var l [][]api.Node
	for _, words := range all {
		l = append(l, tree(words))
		if sort.On(tree(words), true) {
			l = append(l, tree("block "+words), tree("block par end-! a "+words))
		}
	}
	return l
}

// chance is a row of numbers that is always the same.
type chance uint32

func (by *chance) below(n int) int {
	*by = *by*1664525 + 1013904223
	return int(*by>>8) % n
}

// X stands for what goes on plain, and P for what goes on paired.
var (
	plainly = []string{"a", "yield", "alt yield a", "!", "?", "par X X", "par X X", "seq X yield", "seq X hand a throw", "hand X throw", "hand X a", "block P", "block P", "block par P P"}
	pairly  = []string{"pair a b", "pair skip b", "alt pair a b pair c yield", "going X b", "going X yield", "end-! c", "end-ok a", "par P P", "par P P", "seq P pair yield c", "seq P pair throw c", "stack P throw", "stack P b"}
)

// tell is such words by chance, so deep at most.
func (by *chance) tell(from []string, deep int) string {
	if deep == 0 {
		from = from[:2]
	}
	words := strings.Fields(from[by.below(len(from))])
	for k, word := range words {
		switch word {
		case "X":
			words[k] = by.tell(plainly, deep-1)
		case "P":
			words[k] = by.tell(pairly, deep-1)
		}
	}
	return strings.Join(words, " ")
}

// byChance is what comes of so many trees by chance, plain and paired, each so deep at most.
func byChance(count, deep int) [][]api.Node {
	by := chance(13)
	var l [][]api.Node
	for k := range count {
		from := plainly
		if k%2 == 1 {
			from = pairly
		}
		if x := settle.Settle(tree(by.tell(from, deep))); len(x) > 3 {
			l = append(l, x)
		}
	}
	return l
}

// eachMove holds all moves of l against the document's sentences, and tells how many there were of each kind of node, each way, and how many of them were refused.
func eachMove(t *testing.T, l []api.Node, count map[[2]int]int) {
	t.Helper()
	for _, m := range move.Enabled(l) {
		next, act := comes(l, m)
		isNext(t, l, m, next, act)
		count[[2]int{l[m.At].Kind, m.How}]++
		if m.How == api.Do {
			isRefused(t, l, m.At, behind(l, m.At, leaf(api.Throw, 0)))
		} else {
			isNotRefused(t, l, m)
		}
	}
}

func TestEveryTree(t *testing.T) {
	count := map[[2]int]int{}
	for _, l := range slices.Concat(everyTree(), byChance(3000, 5), byChance(1000, 8)) {
		eachMove(t, l, count)
	}
	for _, way := range [][2]int{{api.Act, api.Do}, {api.Alt, api.Left}, {api.Alt, api.Right}, {api.Yield, api.Go}, {api.Yield, api.Stop}, {api.Pair, api.Go}, {api.Pair, api.Stop}} {
		if count[way] < 1000 {
			t.Errorf("only %d moves of the How %d were tried at the kind %d", count[way], way[1], way[0])
		}
	}
}

// Of each of these, all that may be asked.
func TestEveryShortTree(t *testing.T) {
	for _, words := range grown(4, []string{"a", "yield", "!"}, ones, twos) {
		for _, l := range [][]api.Node{tree(words), tree("par ! " + words), tree("block " + words), tree("block par end-! a " + words)} {
			for _, m := range around(len(l)) {
				if !move.Is(l, m) {
					isNoMove(t, l, m)
				}
			}
			eachMove(t, l, map[[2]int]int{})
		}
	}
}

func TestPutInEveryTree(t *testing.T) {
	for _, words := range grown(5, leaves, ones, twos) {
		l := tree(words)
		x, _ := read(l)
		for at := range l {
			for _, y := range []string{"b", "end-? skip", "par c seq d b"} {
				put, _ := read(tree(y))
				want, _ := x.with(at, put)
				if got := step.Put(l, at, tree(y)); !slices.Equal(got, want.flat()) {
					t.Fatalf("P13.1: Put(%s, %d, %s) = %s, want %s", words, at, y, text(got), text(want.flat()))
				}
			}
		}
	}
}

// isTrees tells, by the document's sentence, whether the words are so many trees, one behind the other.
func isTrees(words []string, many int) bool {
	if many == 0 || len(words) == 0 {
		return many == 0 && len(words) == 0
	}
	for k := 1; k <= len(words); k++ {
		if isTrees(words[1:k], arities[words[0]]) && isTrees(words[k:], many-1) {
			return true
		}
	}
	return false
}

// All rows of a few words: most of them are no trees, but have some.
func TestPutInEveryRow(t *testing.T) {
	words := []string{"a", "block", "seq", "pair"}
	rows := [][]string{nil}
	for range 6 {
		var next [][]string
		for _, row := range rows {
			for _, word := range words {
				next = append(next, append(slices.Clone(row), word))
			}
		}
		for _, row := range next {
			putsInRow(t, row)
		}
		rows = next
	}
}

// putsInRow puts a row of another length in each place of a row, and some beside it.
func putsInRow(t *testing.T, words []string) {
	t.Helper()
	for at := -2; at < len(words)+2; at++ {
		want := words
		for to := max(0, at) + 1; at >= 0 && to <= len(words); to++ {
			if isTrees(words[at:to], 1) {
				want = slices.Concat(words[:at], []string{"ok", "seq"}, words[to:])
			}
		}
		if got := step.Put(tree(strings.Join(words, " ")), at, tree("ok seq")); text(got) != strings.Join(want, " ") {
			t.Fatalf("P13.1: Put(%v, %d, ok seq) = %s, want %v", words, at, text(got), want)
		}
	}
}
