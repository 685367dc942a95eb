package sort_test

import (
	"slices"
	"testing"

	"redress/api"
	"redress/row"
	"redress/sort"
)

// A node of each kind; those of one kind are told apart nowhere in this layer.
var (
	a     = api.Node{Kind: api.Act, Name: "a"}
	b     = api.Node{Kind: api.Act, Name: "b"}
	skip  = api.Node{Kind: api.Skip}
	throw = api.Node{Kind: api.Throw}
	yield = api.Node{Kind: api.Yield}
	over  = api.Node{Kind: api.Over, Sign: api.Tick}
	block = api.Node{Kind: api.Block}
	end   = api.Node{Kind: api.End, Sign: api.Bang}
	seq   = api.Node{Kind: api.Seq}
	alt   = api.Node{Kind: api.Alt}
	par   = api.Node{Kind: api.Par}
	hand  = api.Node{Kind: api.Hand}
	pair  = api.Node{Kind: api.Pair}
	going = api.Node{Kind: api.Going}
	stack = api.Node{Kind: api.Stack}
)

var (
	leaves = []api.Node{a, skip, throw, yield, over}
	ones   = []api.Node{block, end}
	twos   = []api.Node{seq, alt, par, hand, pair, going, stack}
)

// tree is one with all the sorts of which it is, each by the document's own sentence: one tree may be of several.
type tree struct {
	l  []api.Node
	is [sort.PairedOn + 1]bool
}

// any tells whether the tree is of one of these sorts.
func (t tree) any(sorts ...int) bool {
	return slices.ContainsFunc(sorts, func(s int) bool { return t.is[s] })
}

func leaf(n api.Node) tree {
	t := tree{l: []api.Node{n}}
	t.is[sort.Plain] = n.Kind == api.Act || n.Kind == api.Skip || n.Kind == api.Throw || n.Kind == api.Yield
	t.is[sort.PlainOn] = n.Kind == api.Over
	return t
}

func ofOne(n api.Node, x tree) tree {
	t := tree{l: row.Make(n, x.l)}
	t.is[sort.Plain] = n.Kind == api.Block && x.is[sort.Paired]
	t.is[sort.PlainOn] = n.Kind == api.Block && x.any(sort.Paired, sort.PairedOn)
	t.is[sort.PairedOn] = n.Kind == api.End && x.is[sort.Plain]
	return t
}

func ofTwo(n api.Node, x, y tree) tree {
	t := tree{l: row.Make(n, x.l, y.l)}
	is := func(kinds ...int) bool { return slices.Contains(kinds, n.Kind) }
	plain, plainY := x.any(sort.Plain, sort.PlainOn), y.any(sort.Plain, sort.PlainOn)
	paired, pairedY := x.any(sort.Paired, sort.PairedOn), y.any(sort.Paired, sort.PairedOn)
	t.is[sort.Plain] = is(api.Seq, api.Alt, api.Par, api.Hand) && x.is[sort.Plain] && y.is[sort.Plain]
	t.is[sort.Paired] = is(api.Pair) && x.is[sort.Plain] && y.is[sort.Plain] ||
		is(api.Seq, api.Alt, api.Par) && x.is[sort.Paired] && y.is[sort.Paired]
	t.is[sort.PlainOn] = is(api.Seq, api.Hand) && plain && y.is[sort.Plain] || is(api.Par) && plain && plainY
	t.is[sort.PairedOn] = is(api.Going) && plain && y.is[sort.Plain] ||
		is(api.Seq) && paired && y.is[sort.Paired] ||
		is(api.Par) && paired && pairedY ||
		is(api.Stack) && paired && y.is[sort.Plain]
	return t
}

// want is the first of the sorts of which the tree is.
func (t tree) want() int {
	for _, s := range []int{sort.Plain, sort.Paired, sort.PlainOn, sort.PairedOn} {
		if t.is[s] {
			return s
		}
	}
	return sort.None
}

// trees is all trees of up to so many nodes, of all kinds but that these alone stand where a tree has none behind it.
func trees(most int, ends ...api.Node) []tree {
	bySize := [][]tree{nil}
	for size := 1; size <= most; size++ {
		var l []tree
		if size == 1 {
			for _, n := range ends {
				l = append(l, leaf(n))
			}
		}
		for _, x := range bySize[size-1] {
			for _, n := range ones {
				l = append(l, ofOne(n, x))
			}
		}
		for left := 1; left < size-1; left++ {
			for _, x := range bySize[left] {
				for _, y := range bySize[size-1-left] {
					for _, n := range twos {
						l = append(l, ofTwo(n, x, y))
					}
				}
			}
		}
		bySize = append(bySize, l)
	}
	return slices.Concat(bySize...)
}

// everyTree is deep enough with few nodes to end in, and wide enough with all of them; seven nodes are two Pairs in a node of two.
func everyTree() []tree {
	return append(trees(7, a, over), trees(5, leaves...)...)
}

func TestEveryTree(t *testing.T) {
	seen := map[int]int{}
	for _, x := range everyTree() {
		want := x.want()
		seen[want]++
		if got := sort.Of(x.l); got != want {
			t.Errorf("P4.1: Of(%v) = %d, want %d", x.l, got, want)
		}
		if got := sort.Term(x.l); got != x.is[sort.Plain] {
			t.Errorf("P4.1: Term(%v) = %v", x.l, got)
		}
		if got := sort.On(x.l, false); got != x.any(sort.Plain, sort.PlainOn) {
			t.Errorf("P4.1: On(%v, false) = %v", x.l, got)
		}
		if got := sort.On(x.l, true); got != x.any(sort.Paired, sort.PairedOn) {
			t.Errorf("P4.1: On(%v, true) = %v", x.l, got)
		}
		if got := sort.Right(x.l); got != x.is[sort.Plain] {
			t.Errorf("P4.1: Right(%v) = %v", x.l, got)
		}
	}
	for s := sort.None; s <= sort.PairedOn; s++ {
		if seen[s] < 100 {
			t.Errorf("only %d trees of sort %d were tried", seen[s], s)
		}
	}
}

func TestEveryTreeIsOfOneKindOfSorts(t *testing.T) {
	for _, x := range everyTree() {
		plain, paired := sort.On(x.l, false), sort.On(x.l, true)
		if plain && paired {
			t.Errorf("P4.3: %v is plain and paired", x.l)
		}
		of := sort.Of(x.l)
		if (of != sort.None) != (plain || paired) {
			t.Errorf("P4.3: %v is of sort %d, On plain %v, paired %v", x.l, of, plain, paired)
		}
		goesOnOnly := row.Count(x.l, api.Over, api.Going, api.Stack, api.End) > 0
		if goesOnOnly && (of == sort.Plain || of == sort.Paired || sort.Term(x.l) || sort.Right(x.l)) {
			t.Errorf("P4.3: %v is a term", x.l)
		}
		if !goesOnOnly && (of == sort.PlainOn || of == sort.PairedOn) {
			t.Errorf("P4.3: %v goes on, and has nothing that does", x.l)
		}
	}
}

// Of each sort that a tree may have behind it, and of none.
var samples = []struct {
	name string
	l    []api.Node
}{
	{"none", []api.Node{pair, over, a}},
	{"plain", []api.Node{block, pair, a, skip}},
	{"paired", []api.Node{alt, pair, a, throw, pair, yield, b}},
	{"plain on", []api.Node{block, end, a}},
	{"paired on", []api.Node{going, a, skip}},
}

func TestSamples(t *testing.T) {
	for s, x := range samples {
		if got := sort.Of(x.l); got != s {
			t.Errorf("P4.1: Of(%v) = %d, want %s", x.l, got, x.name)
		}
	}
}

// What a node of two makes of each two sorts, written down by hand: the rows by the first one, the columns by the second one.
func TestNodesOfTwo(t *testing.T) {
	for _, c := range []struct {
		n    api.Node
		want [sort.PairedOn + 1][sort.PairedOn + 1]int
	}{
		{seq, [5][5]int{1: {0, 1, 0, 0, 0}, 2: {0, 0, 2, 0, 0}, 3: {0, 3, 0, 0, 0}, 4: {0, 0, 4, 0, 0}}},
		{alt, [5][5]int{1: {0, 1, 0, 0, 0}, 2: {0, 0, 2, 0, 0}}},
		{par, [5][5]int{1: {0, 1, 0, 3, 0}, 2: {0, 0, 2, 0, 4}, 3: {0, 3, 0, 3, 0}, 4: {0, 0, 4, 0, 4}}},
		{hand, [5][5]int{1: {0, 1, 0, 0, 0}, 3: {0, 3, 0, 0, 0}}},
		{pair, [5][5]int{1: {0, 2, 0, 0, 0}}},
		{going, [5][5]int{1: {0, 4, 0, 0, 0}, 3: {0, 4, 0, 0, 0}}},
		{stack, [5][5]int{2: {0, 4, 0, 0, 0}, 4: {0, 4, 0, 0, 0}}},
	} {
		for i, x := range samples {
			for j, y := range samples {
				l := row.Make(c.n, x.l, y.l)
				if got := sort.Of(l); got != c.want[i][j] {
					t.Errorf("P4.1: kind %d of one that is %s and one that is %s is of sort %d, want %d", c.n.Kind, x.name, y.name, got, c.want[i][j])
				}
			}
		}
	}
}

func TestNodesOfOneAndOfNone(t *testing.T) {
	for _, c := range []struct {
		n    api.Node
		want [sort.PairedOn + 1]int
	}{
		{block, [5]int{0, 0, 1, 0, 3}},
		{end, [5]int{0, 4, 0, 0, 0}},
	} {
		for i, x := range samples {
			if got := sort.Of(row.Make(c.n, x.l)); got != c.want[i] {
				t.Errorf("P4.1: kind %d of one that is %s is of sort %d, want %d", c.n.Kind, x.name, got, c.want[i])
			}
		}
	}
	for _, n := range leaves {
		want := sort.Plain
		if n == over {
			want = sort.PlainOn
		}
		if got := sort.Of([]api.Node{n}); got != want {
			t.Errorf("P4.1: %v is of sort %d, want %d", n, got, want)
		}
	}
	for _, s := range []int{api.Tick, api.Bang, api.Query} {
		if sort.Of([]api.Node{{Kind: api.Over, Sign: s}}) != sort.PlainOn || sort.Of([]api.Node{{Kind: api.End, Sign: s}, a}) != sort.PairedOn {
			t.Errorf("P4.1: an Over or an End with sign %d", s)
		}
	}
}

func TestSortsAreCounted(t *testing.T) {
	if got := [...]int{sort.None, sort.Plain, sort.Paired, sort.PlainOn, sort.PairedOn}; got != [...]int{0, 1, 2, 3, 4} {
		t.Errorf("P4.1: the sorts are %v", got)
	}
}
