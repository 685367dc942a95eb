package row_test

import (
	"slices"
	"testing"

	"redress/api"
	"redress/row"
)

var (
	a     = api.Node{Kind: api.Act, Name: "a"}
	b     = api.Node{Kind: api.Act, Name: "b"}
	skip  = api.Node{Kind: api.Skip}
	throw = api.Node{Kind: api.Throw}
	over  = api.Node{Kind: api.Over, Sign: api.Bang}
	block = api.Node{Kind: api.Block}
	end   = api.Node{Kind: api.End, Sign: api.Tick}
	seq   = api.Node{Kind: api.Seq}
	alt   = api.Node{Kind: api.Alt}
	par   = api.Node{Kind: api.Par}
	pair  = api.Node{Kind: api.Pair}
	none  = api.Node{Kind: 99}
)

// plant is a tree as a tree: the tests tell from it what is told of the row.
type plant struct {
	n    api.Node
	kids []plant
}

func arityByHand(kind int) int {
	for arity, l := range kinds {
		if slices.Contains(l, kind) {
			return arity
		}
	}
	return -1
}

// grow reads the tree with which l begins, and what lies behind it.
func grow(l []api.Node) (p plant, rest []api.Node, is bool) {
	if len(l) == 0 || arityByHand(l[0].Kind) < 0 {
		return plant{}, nil, false
	}
	p, rest = plant{n: l[0]}, l[1:]
	for range arityByHand(p.n.Kind) {
		var kid plant
		if kid, rest, is = grow(rest); !is {
			return plant{}, nil, false
		}
		p.kids = append(p.kids, kid)
	}
	return p, rest, true
}

func (p plant) row() []api.Node {
	l := []api.Node{p.n}
	for _, kid := range p.kids {
		l = append(l, kid.row()...)
	}
	return l
}

func (p plant) depth() int {
	deepest := 0
	for _, kid := range p.kids {
		deepest = max(deepest, kid.depth())
	}
	return 1 + deepest
}

// everyRow is all rows of these nodes that are not longer than long: trees, parts of them, and more than them.
func everyRow(long int, nodes ...api.Node) [][]api.Node {
	all, last := [][]api.Node{nil}, [][]api.Node{nil}
	for range long {
		var next [][]api.Node
		for _, l := range last {
			for _, n := range nodes {
				next = append(next, append(slices.Clone(l), n))
			}
		}
		all, last = append(all, next...), next
	}
	return all
}

func rows() [][]api.Node {
	return everyRow(6, a, end, seq, par, none)
}

func sameRows(x, y [][]api.Node) bool {
	return slices.EqualFunc(x, y, slices.Equal[[]api.Node])
}

func TestTreesByHand(t *testing.T) {
	for _, c := range []struct {
		l           []api.Node
		size, depth int
		kids        [][]api.Node
	}{
		{nil, 0, 0, nil},
		{[]api.Node{}, 0, 0, nil},
		{[]api.Node{none}, 0, 0, nil},
		{[]api.Node{{}}, 0, 0, nil},
		{[]api.Node{a}, 1, 1, nil},
		{[]api.Node{a, b}, 1, 1, nil},
		{[]api.Node{a, none}, 1, 1, nil},
		{[]api.Node{none, a}, 0, 0, nil},
		{[]api.Node{block}, 0, 0, nil},
		{[]api.Node{seq, a}, 0, 0, nil},
		{[]api.Node{seq, a, none}, 0, 0, nil},
		{[]api.Node{seq, none, a}, 0, 0, nil},
		{[]api.Node{seq, a, seq, b}, 0, 0, nil},
		{[]api.Node{seq, a, alt, skip, throw}, 5, 3, [][]api.Node{{a}, {alt, skip, throw}}},
		{[]api.Node{seq, alt, skip, throw, a}, 5, 3, [][]api.Node{{alt, skip, throw}, {a}}},
		{[]api.Node{seq, a, b, skip, throw}, 3, 2, [][]api.Node{{a}, {b}}},
		{[]api.Node{block, pair, a, b}, 4, 3, [][]api.Node{{pair, a, b}}},
		{[]api.Node{end, a, a}, 2, 2, [][]api.Node{{a}}},
		{[]api.Node{par, block, seq, pair, a, b, pair, b, a, over}, 10, 5, [][]api.Node{{block, seq, pair, a, b, pair, b, a}, {over}}},
		// Nodes that are not Right make trees all the same: only the kind counts.
		{[]api.Node{{Kind: api.Act}}, 1, 1, nil},
		{[]api.Node{{Kind: api.Seq, Name: "x", Sign: 7}, {Kind: api.Over}, {Kind: api.Act, Sign: -1}}, 3, 2, [][]api.Node{{{Kind: api.Over}}, {{Kind: api.Act, Sign: -1}}}},
	} {
		if got := row.Size(c.l); got != c.size {
			t.Errorf("P3.2: Size(%v) = %d, want %d", c.l, got, c.size)
		}
		if got := row.Depth(c.l); got != c.depth {
			t.Errorf("P3.3: Depth(%v) = %d, want %d", c.l, got, c.depth)
		}
		if got := row.Kids(c.l); !sameRows(got, c.kids) {
			t.Errorf("P3.3: Kids(%v) = %v, want %v", c.l, got, c.kids)
		}
	}
}

func TestTreesOfEachKind(t *testing.T) {
	for arity, l := range kinds {
		for _, kind := range l {
			tree := append([]api.Node{{Kind: kind}}, slices.Repeat([]api.Node{a}, arity)...)
			if got := row.Size(append(tree, b)); got != len(tree) {
				t.Errorf("P3.2: Size of kind %d = %d", kind, got)
			}
			if got := row.Depth(tree); got != min(arity, 1)+1 {
				t.Errorf("P3.3: Depth of kind %d = %d", kind, got)
			}
			if got := row.Kids(tree); len(got) != arity {
				t.Errorf("P3.3: Kids of kind %d: %v", kind, got)
			}
			if short := tree[:arity]; row.Size(short) != 0 || row.Depth(short) != 0 || len(row.Kids(short)) != 0 {
				t.Errorf("P3.2: kind %d with one too few behind it is a tree", kind)
			}
		}
	}
	for _, kind := range noKinds {
		tree := []api.Node{{Kind: kind}, a, a}
		if row.Size(tree) != 0 || row.Depth(tree) != 0 || len(row.Kids(tree)) != 0 {
			t.Errorf("P3.2: a tree begins with kind %d", kind)
		}
	}
}

func TestEveryShortRow(t *testing.T) {
	for _, l := range rows() {
		p, rest, is := grow(l)
		size, depth := 0, 0
		var kids [][]api.Node
		if is {
			size, depth = len(l)-len(rest), p.depth()
		}
		for _, kid := range p.kids {
			kids = append(kids, kid.row())
		}
		if got := row.Size(l); got != size {
			t.Errorf("P3.2: Size(%v) = %d, want %d", l, got, size)
		}
		if got := row.Depth(l); got != depth {
			t.Errorf("P3.3: Depth(%v) = %d, want %d", l, got, depth)
		}
		if got := row.Kids(l); !sameRows(got, kids) {
			t.Errorf("P3.3: Kids(%v) = %v, want %v", l, got, kids)
		}
		if got := row.Whole(l); got != (is && len(rest) == 0) {
			t.Errorf("P3.2: Whole(%v) = %v", l, got)
		}
	}
}

func TestWholeWantsRightNodes(t *testing.T) {
	whole := []api.Node{par, block, seq, pair, a, b, pair, b, a, over}
	if !row.Whole(whole) {
		t.Errorf("P3.2: %v is not whole", whole)
	}
	for k := range whole {
		for _, wrong := range []api.Node{{Kind: whole[k].Kind, Name: "A", Sign: whole[k].Sign}, {Kind: whole[k].Kind, Name: whole[k].Name, Sign: 9}, {Kind: whole[k].Kind, Name: "a", Sign: api.Tick}} {
			l := slices.Clone(whole)
			l[k] = wrong
			if row.Whole(l) || row.Size(l) != len(l) {
				t.Errorf("P3.2: whole with %v at %d, or no tree of that size", wrong, k)
			}
		}
		if row.Whole(whole[:k]) {
			t.Errorf("P3.2: whole are the first %d of %v", k, whole)
		}
	}
	for _, n := range []api.Node{a, skip, seq, none} {
		if l := append(slices.Clone(whole), n); row.Whole(l) || row.Size(l) != len(whole) {
			t.Errorf("P3.2: whole with %v behind it, or no tree of that size", n)
		}
	}
	if row.Whole(nil) || row.Whole([]api.Node{}) {
		t.Error("P3.2: nothing is whole")
	}
}

func TestWholeAsLongAsItMayBe(t *testing.T) {
	for long := api.MaxRow - 3; long <= api.MaxRow+3; long++ {
		chain := append(slices.Repeat([]api.Node{block}, long-1), a)
		if got := row.Whole(chain); got != (long <= api.MaxRow) {
			t.Errorf("P3.2: Whole of a chain of %d = %v", long, got)
		}
		if row.Size(chain) != long || row.Depth(chain) != long || len(row.Kids(chain)[0]) != long-1 {
			t.Errorf("P3.2: a chain of %d: Size %d, Depth %d", long, row.Size(chain), row.Depth(chain))
		}
		wide := append(slices.Repeat([]api.Node{seq, skip}, long/2), skip)
		if got := row.Whole(wide); got != (len(wide) <= api.MaxRow) {
			t.Errorf("P3.2: Whole of %d nodes = %v", len(wide), got)
		}
	}
}

// Far longer and deeper than a tree that is Whole.
func TestLongTrees(t *testing.T) {
	deep := 1 << 16
	for name, l := range map[string][]api.Node{
		"first":  append(slices.Repeat([]api.Node{seq}, deep-1), slices.Repeat([]api.Node{a}, deep)...),
		"second": append(slices.Repeat([]api.Node{seq, a}, deep-1), a),
		"only":   append(slices.Repeat([]api.Node{end}, deep-1), a),
	} {
		if row.Size(l) != len(l) || row.Size(append(l, a, none)) != len(l) || row.Depth(l) != deep {
			t.Errorf("P3.2: long in the %s one: Size %d of %d, Depth %d of %d", name, row.Size(l), len(l), row.Depth(l), deep)
		}
		if short := l[:len(l)-1]; row.Size(short) != 0 || row.Depth(short) != 0 || len(row.Kids(short)) != 0 {
			t.Errorf("P3.2: long in the %s one, with one too few, is a tree", name)
		}
		if got := row.Make(l[0], row.Kids(l)...); !row.Same(got, l) {
			t.Errorf("P3.4: long in the %s one is not made of its Kids", name)
		}
		if row.Whole(l) {
			t.Errorf("P3.2: long in the %s one is whole", name)
		}
	}
	balanced := []api.Node{a}
	for range 17 {
		balanced = row.Make(alt, balanced, balanced)
	}
	if row.Size(balanced) != 1<<18-1 || row.Depth(balanced) != 18 || row.Count(balanced, api.Act) != 1<<17 {
		t.Errorf("P3.2: of a balanced tree: Size %d, Depth %d", row.Size(balanced), row.Depth(balanced))
	}
}

func TestMake(t *testing.T) {
	for _, c := range []struct {
		n    api.Node
		kids [][]api.Node
		want []api.Node
	}{
		{a, nil, []api.Node{a}},
		{seq, [][]api.Node{}, []api.Node{seq}},
		{block, [][]api.Node{{a}}, []api.Node{block, a}},
		{seq, [][]api.Node{{a}, {end, b}}, []api.Node{seq, a, end, b}},
		{seq, [][]api.Node{{end, b}, {a}}, []api.Node{seq, end, b, a}},
		// As many as are given, whatever the arity, and whether they are trees or not.
		{skip, [][]api.Node{{a}, {b}, {a}}, []api.Node{skip, a, b, a}},
		{none, [][]api.Node{{seq}, nil, {}, {none, a}}, []api.Node{none, seq, none, a}},
		{api.Node{Kind: -1, Name: "\xff", Sign: 8}, [][]api.Node{nil}, []api.Node{{Kind: -1, Name: "\xff", Sign: 8}}},
	} {
		if got := row.Make(c.n, c.kids...); !slices.Equal(got, c.want) {
			t.Errorf("P3.3: Make(%v, %v) = %v, want %v", c.n, c.kids, got, c.want)
		}
	}
}

func TestCount(t *testing.T) {
	// No tree, and nodes of no kind: all of them count.
	l := []api.Node{seq, a, none, b, seq, {Kind: api.Act}, over, {Kind: api.Over}, none, none}
	for _, c := range []struct {
		kinds []int
		want  int
	}{
		{nil, 0}, {[]int{}, 0},
		{[]int{api.Act}, 3}, {[]int{api.Seq}, 2}, {[]int{api.Over}, 2}, {[]int{99}, 3}, {[]int{api.Par}, 0}, {[]int{0}, 0},
		{[]int{api.Act, api.Seq}, 5}, {[]int{api.Seq, api.Act}, 5}, {[]int{api.Par, api.Act, api.Alt}, 3},
		{[]int{api.Act, api.Act, api.Act}, 3}, {[]int{api.Act, api.Seq, api.Over, 99}, len(l)},
	} {
		if got := row.Count(l, c.kinds...); got != c.want {
			t.Errorf("P3.3: Count of %v = %d, want %d", c.kinds, got, c.want)
		}
		if row.Count(nil, c.kinds...) != 0 || row.Count([]api.Node{}, c.kinds...) != 0 {
			t.Errorf("P3.3: Count of %v in nothing", c.kinds)
		}
	}
	for _, kind := range slices.Concat(noKinds, slices.Concat(kinds...)) {
		for _, other := range slices.Concat(noKinds, slices.Concat(kinds...)) {
			want := 0
			if kind == other {
				want = 2
			}
			if got := row.Count([]api.Node{{Kind: kind}, {Kind: kind, Name: "a"}}, other); got != want {
				t.Errorf("P3.3: Count of %d among two of %d = %d", other, kind, got)
			}
		}
	}
}

func TestSame(t *testing.T) {
	nodes := []api.Node{{}, a, b, skip, none, {Kind: api.Act}, {Kind: api.Act, Name: "a", Sign: 1}, {Kind: api.Skip, Name: "a"}, {Name: "a"}, {Sign: 1}, over, {Kind: api.Over, Sign: api.Tick}}
	lists := everyRow(2, nodes...)
	for i, x := range lists {
		for j, y := range lists {
			if got := row.Same(x, slices.Clone(y)); got != (i == j) {
				t.Errorf("P3.3: Same(%v, %v) = %v", x, y, got)
			}
		}
	}
	if !row.Same(nil, []api.Node{}) || !row.Same([]api.Node{}, nil) || !row.Same(nil, nil) {
		t.Error("R3: Same tells nothing and an empty list apart")
	}
	long := slices.Repeat([]api.Node{a}, 1000)
	for _, at := range []int{0, 500, 999} {
		other := slices.Clone(long)
		other[at].Name = "b"
		if row.Same(long, other) || row.Same(other, long) || row.Same(long, long[:at]) || !row.Same(long, slices.Clone(long)) {
			t.Errorf("P3.3: Same of two rows that differ at %d", at)
		}
	}
}

func TestTreesAreMadeOfTheirKids(t *testing.T) {
	for _, l := range rows() {
		size := row.Size(l)
		if size == 0 {
			continue
		}
		if got := row.Make(l[0], row.Kids(l)...); !row.Same(got, l[:size]) {
			t.Errorf("P3.4: %v is not made of its first node and its Kids, but %v", l[:size], got)
		}
	}
}

func TestKidsOfWhatIsMade(t *testing.T) {
	trees := [][]api.Node{{a}, {none}, {end, over}, {seq, a, skip}, {pair, end, b, alt, a, throw}, {block, block, block, a}}
	trees = slices.DeleteFunc(trees, func(l []api.Node) bool { return row.Size(l) == 0 })
	if len(trees) != 5 {
		t.Fatalf("P3.2: %d of these are trees", len(trees))
	}
	for arity, l := range kinds {
		for _, kind := range l {
			for _, x := range trees {
				for _, y := range trees {
					kids := [][]api.Node{x, y}[:arity]
					if got := row.Kids(row.Make(api.Node{Kind: kind}, kids...)); !sameRows(got, kids) {
						t.Errorf("P3.4: Kids of kind %d made of %v = %v", kind, kids, got)
					}
				}
			}
		}
	}
}
