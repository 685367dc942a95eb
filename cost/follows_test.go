package cost_test

import (
	"slices"
	"strings"
	"testing"

	"redress/api"
	"redress/cost"
	"redress/move"
	"redress/row"
	"redress/runs"
	"redress/settle"
	"redress/step"
)

// chance is a row of numbers that is always the same.
type chance uint32

func (by *chance) below(n int) int {
	*by = *by*1664525 + 1013904223
	return int(*by>>8) % n
}

// X stands for what goes on plain, and P for what goes on paired.
var (
	plainly = []string{"a", "yield", "alt yield a", "!", "?", "par X X", "par X X", "seq X alt yield b", "seq X hand a throw", "hand X throw", "hand X a", "block P", "block P", "block par P P"}
	pairly  = []string{"pair a b", "pair skip b", "alt pair a b pair c yield", "going X b", "going X alt yield skip", "end-! c", "end-ok a", "par P P", "par P P", "seq P pair yield c", "seq P alt pair throw c pair a a", "stack P throw", "stack P b"}
)

// tell is such words by chance, so deep at most.
func (by *chance) tell(from []string, deep int) string {
	if deep == 0 {
		from = from[:2]
	}
	words := strings.Fields(from[by.below(len(from))])
	for k, word := range words {
		switch word {
		case "X":
			words[k] = by.tell(plainly, deep-1)
		case "P":
			words[k] = by.tell(pairly, deep-1)
		}
	}
	return strings.Join(words, " ")
}

// byChance is so many trees by chance, plain and paired in turn, each so deep at most, the shortest ones left out.
func byChance(count, deep int) [][]api.Node {
	by := chance(15)
	var l [][]api.Node
	for len(l) < count {
		from := plainly
		if len(l)%2 == 1 {
			from = pairly
		}
		if x := tree(by.tell(from, deep)); len(x) > 7 && len(x) <= api.MaxRow {
			l = append(l, x)
		}
	}
	return l
}

func TestTreesByChance(t *testing.T) {
	long := 0
	for _, l := range slices.Concat(byChance(3000, 5), byChance(2000, 12)) {
		costsAsTold(t, l)
		if len(l) > 50 {
			long++
		}
	}
	if long < 100 {
		t.Errorf("only %d long trees were tried", long)
	}
}

// isInOrder holds the costs of l against each other.
func isInOrder(t *testing.T, l []api.Node) {
	t.Helper()
	if of, most, least := cost.Of(l), cost.Most(l), cost.Least(l); least < 0 || least > most || most > of || of > len(l) {
		t.Errorf("P15.3: of %s, of %d nodes, Of, Most, Least are %d, %d, %d", text(l), len(l), of, most, least)
	}
}

// leavesLess holds that each move of l, and each refusal, leaves a lesser Most, and tells how many moves l has.
func leavesLess(t *testing.T, l []api.Node) int {
	t.Helper()
	moves := move.Enabled(l)
	for _, m := range moves {
		next, _, _ := step.Next(l, m)
		thrown, _ := step.Refuse(l, m)
		if cost.Most(next) >= cost.Most(l) || cost.Most(thrown) >= cost.Most(l) {
			t.Errorf("P15.3: the Most of %s is %d, and behind %s that of %s is %d, that of %s is %d", text(l), cost.Most(l), move.Text(m), text(next), cost.Most(next), text(thrown), cost.Most(thrown))
		}
	}
	return len(moves)
}

func TestEachMoveLeavesLess(t *testing.T) {
	many := 0
	for _, l := range slices.Concat(everyTree(), byChance(3000, 5), byChance(500, 8)) {
		isInOrder(t, l)
		x := settle.Settle(l)
		isInOrder(t, x)
		if cost.Most(x) > cost.Most(l) {
			t.Errorf("P15.3: of %s, whose Most is %d, comes %s, whose Most is %d", text(l), cost.Most(l), text(x), cost.Most(x))
		}
		many += leavesLess(t, x)
	}
	if many < 10000 {
		t.Errorf("only %d moves were tried", many)
	}
}

// lengths is how many moves the longest and the shortest run of l has. Many ways lead to the same row, so what was told is kept.
func lengths(l []api.Node, known map[string][2]int) [2]int {
	name := text(l)
	if both, is := known[name]; is {
		return both
	}
	var both [2]int
	for k, m := range move.Enabled(l) {
		next, _, _ := step.Next(l, m)
		behind := lengths(next, known)
		if k == 0 {
			both = [2]int{1 + behind[0], 1 + behind[1]}
		}
		both = [2]int{max(both[0], 1+behind[0]), min(both[1], 1+behind[1])}
	}
	known[name] = both
	return both
}

func TestNoRunIsLonger(t *testing.T) {
	as, long := 0, 0
	known := map[string][2]int{}
	for _, l := range slices.Concat(everyTree(), byChance(3000, 5)) {
		x := settle.Settle(l)
		if row.Count(x, api.Act, api.Alt, api.Yield, api.Pair) > 12 {
			continue
		}
		longest := lengths(x, known)[0]
		if longest > cost.Most(x) || longest > cost.Most(l) {
			t.Errorf("P15.3: a run of %s has %d moves, but its Most is %d", text(x), longest, cost.Most(x))
		}
		if longest == cost.Most(x) {
			as++
		}
		if longest > 5 {
			long++
		}
	}
	if as < 3000 || long < 200 {
		t.Errorf("only %d trees with a run as long as Most, and %d with a long run, were tried", as, long)
	}
}

// Where nothing throws, gives way or is taken back, all is done but what was not chosen: there is a run as long as Most, and one as short as Least.
func TestWhereAllIsDone(t *testing.T) {
	between := 0
	known := map[string][2]int{}
	for _, words := range grown(7, []string{"a", "skip"}, nil, []string{"seq", "alt", "par"}) {
		l := settle.Begin(tree(words))
		if got, want := [2]int{cost.Most(l), cost.Least(l)}, lengths(l, known); got != want {
			t.Errorf("P15.1: Most and Least of %s are %v, but its longest and its shortest run have %v moves", text(l), got, want)
		}
		if cost.Most(l) > cost.Least(l) {
			between++
		}
	}
	if between < 300 {
		t.Errorf("only %d terms whose Most is not their Least were tried", between)
	}
}

// By any picks there are no more moves than Most, however long the row is.
func TestAnyPicks(t *testing.T) {
	by := chance(4)
	for _, l := range byChance(300, 7) {
		l = settle.Settle(l)
		var picks []int
		for range len(l) + 2 {
			picks = append(picks, by.below(1000)-500)
		}
		if r := runs.Play(l, picks...); r.N > cost.Most(l) || len(move.Enabled(r.L)) > 0 || cost.Crashed(l, 0) <= r.N {
			t.Errorf("P15.3: a run of %s, whose Most is %d, has %d moves, and comes to %s", text(l), cost.Most(l), r.N, text(r.L))
		}
	}
}
