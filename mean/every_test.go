package mean_test

import (
	"slices"
	"testing"

	"redress/api"
	"redress/mean"
	"redress/sort"
	"redress/trace"
)

var (
	ones = []api.Node{block, endTick, endBang, endQuery}
	twos = []api.Node{seq, alt, par, hand, pair, going, stack}
)

// grown is all trees of up to so many nodes that are, or go on, plain or paired, of nodes of two and these: what is of no sort is left out, as no tree of a sort has it.
func grown(most int, leaves, ones []api.Node) []*tree {
	bySize := [][]*tree{nil}
	for size := 1; size <= most; size++ {
		var l []*tree
		keep := func(x *tree) {
			if sort.Of(x.l) != sort.None {
				l = append(l, x)
			}
		}
		if size == 1 {
			for _, n := range leaves {
				keep(grow(n))
			}
		}
		for _, x := range bySize[size-1] {
			for _, n := range ones {
				keep(grow(n, x))
			}
		}
		for left := 1; left < size-1; left++ {
			for _, x := range bySize[left] {
				for _, y := range bySize[size-1-left] {
					for _, n := range twos {
						keep(grow(n, x, y))
					}
				}
			}
		}
		bySize = append(bySize, l)
	}
	return slices.Concat(bySize...)
}

// isAsAsked holds all that is told of a tree against what it is told to do by asking for one after the other.
func isAsAsked(t *testing.T, x *tree) {
	t.Helper()
	if sort.On(x.l, false) {
		if got, e := mean.Plain(x.l); e != api.OK || texts(got) != x.byAsking(false) {
			t.Errorf("P7.2: Plain(%v) = %s, %d, want %s", x.l, texts(got), e, x.byAsking(false))
		}
		return
	}
	got, e := mean.Paired(x.l)
	if e != api.OK || pairTexts(got) != x.byAsking(true) {
		t.Errorf("P7.3: Paired(%v) = %s, %d, want %s", x.l, pairTexts(got), e, x.byAsking(true))
	}
	var want []trace.Trace
	for _, q := range x.candidates() {
		if slices.ContainsFunc(got, func(p mean.Pair) bool { return trace.Compare(p.Q, q) == 0 }) {
			want = append(want, q)
		}
	}
	if got, e := mean.Back(x.l); e != api.OK || texts(got) != texts(want) {
		t.Errorf("P7.4: Back(%v) = %s, %d, want %s", x.l, texts(got), e, texts(want))
	}
}

func areAsAsked(t *testing.T, least int, l []*tree) {
	t.Helper()
	seen := map[int]int{}
	for _, x := range l {
		seen[sort.Of(x.l)]++
		isAsAsked(t, x)
	}
	for s := sort.Plain; s <= sort.PairedOn; s++ {
		if seen[s] < least {
			t.Errorf("only %d trees of sort %d were tried", seen[s], s)
		}
	}
}

func TestEveryTreeOfAllKinds(t *testing.T) {
	areAsAsked(t, 500, grown(5, []api.Node{a, b, skip, throw, yield, overTick, overBang, overQuery}, ones))
}

func TestEveryTreeOfFewKinds(t *testing.T) {
	areAsAsked(t, 500, grown(7, []api.Node{a, throw}, []api.Node{block, endQuery}))
	areAsAsked(t, 500, grown(7, []api.Node{b, yield}, []api.Node{block, endBang}))
}

// chance is a row of numbers that is always the same.
type chance uint32

func (by *chance) below(n int) int {
	*by = *by*1664525 + 1013904223
	return int(*by>>8) % n
}

// some is a tree of about so many nodes, plain or paired, of a term or of what goes on, by chance; acts tells how many Acts it may still have.
func (by *chance) some(long int, paired, on bool, acts *int) *tree {
	if !paired && (long < 3 || long < 5 && by.below(4) == 0) {
		return by.leaf(on, acts)
	}
	if paired && long < 7 {
		return by.ofPlain(long, on, acts)
	}
	first := 1 + by.below(long-2)
	if paired {
		kinds := []api.Node{seq, par, alt}
		if on {
			kinds = []api.Node{seq, par, stack}
		}
		n := kinds[by.below(3)]
		return grow(n, by.some(first, true, on, acts), by.some(long-1-first, n != stack, on && n == par && by.below(2) == 0, acts))
	}
	if by.below(3) == 0 {
		return grow(block, by.some(long-1, true, on, acts))
	}
	kinds := []api.Node{seq, par, hand, alt}
	if on {
		kinds = kinds[:3]
	}
	n := kinds[by.below(len(kinds))]
	return grow(n, by.some(first, false, on, acts), by.some(long-1-first, false, on && n == par && by.below(2) == 0, acts))
}

func (by *chance) leaf(on bool, acts *int) *tree {
	if on && by.below(2) == 0 {
		return grow(api.Node{Kind: api.Over, Sign: api.Tick + by.below(3)})
	}
	if *acts > 0 && by.below(3) > 0 {
		*acts--
		return grow([]api.Node{a, b, c}[by.below(3)])
	}
	return grow([]api.Node{skip, throw, yield}[by.below(3)])
}

func (by *chance) ofPlain(long int, on bool, acts *int) *tree {
	first := 1 + by.below(max(1, long-2))
	if on && by.below(2) == 0 {
		return grow(ones[1+by.below(3)], by.some(long-1, false, false, acts))
	}
	if on {
		return grow(going, by.some(first, false, true, acts), by.some(long-1-first, false, false, acts))
	}
	return grow(pair, by.some(first, false, false, acts), by.some(long-1-first, false, false, acts))
}

func TestManyLongerTrees(t *testing.T) {
	by := chance(7)
	seen := map[int]int{}
	for k := range 1000 {
		acts := 1 + k%4
		x := by.some(8+by.below(14), k&4 == 0, k&8 == 0, &acts)
		if sort.Of(x.l) == sort.None {
			t.Fatalf("%v is of no sort", x.l)
		}
		if mean.Small(x.l) {
			seen[sort.Of(x.l)]++
			isAsAsked(t, x)
		}
	}
	for s := sort.Plain; s <= sort.PairedOn; s++ {
		if seen[s] < 80 {
			t.Errorf("only %d longer trees of sort %d were tried", seen[s], s)
		}
	}
}
