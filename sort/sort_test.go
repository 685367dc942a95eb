package sort_test

import (
	"math"
	"slices"
	"strconv"
	"testing"

	"redress/api"
	"redress/row"
	"redress/sort"
)

func TestExamples(t *testing.T) {
	for _, c := range []struct {
		l    []api.Node
		want int
	}{
		{[]api.Node{block, pair, a, b}, sort.Plain},
		{[]api.Node{seq, over, skip}, sort.PlainOn},
		{[]api.Node{seq, pair, skip, skip, skip}, sort.None},
		{[]api.Node{par, block, seq, pair, a, b, pair, a, b, a}, sort.Plain},
	} {
		if got := sort.Of(c.l); got != c.want {
			t.Errorf("P4.1: Of(%v) = %d, want %d", c.l, got, c.want)
		}
	}
}

// isNothing holds a row against all that is told of what is of no sort.
func isNothing(t *testing.T, l []api.Node, why string) {
	t.Helper()
	if sort.Of(l) != sort.None || sort.Term(l) || sort.On(l, false) || sort.On(l, true) || sort.Right(l) {
		t.Errorf("P4.1: of a sort, though %s: %v", why, l[:min(len(l), 12)])
	}
}

func TestWhatIsNotWhole(t *testing.T) {
	isNothing(t, nil, "there is nothing")
	isNothing(t, []api.Node{}, "there is nothing")
	for _, was := range [][]api.Node{
		{a}, {over}, {pair, a, b}, {end, a}, {going, over, b}, {block, stack, end, a, b}, {hand, seq, a, b, alt, skip, throw},
	} {
		if sort.Of(was) == sort.None {
			t.Errorf("P4.1: %v is of no sort", was)
		}
		for k := range was {
			isNothing(t, was[:k], "there are nodes too few")
			isNothing(t, slices.Insert(slices.Clone(was), k, a), "there is a node too many")
		}
		isNothing(t, append(slices.Clone(was), over), "there is a node too many")
	}
}

func TestWrongNodes(t *testing.T) {
	was := []api.Node{par, block, stack, end, a, b, seq, over, skip}
	if sort.Of(was) != sort.PlainOn {
		t.Fatalf("P4.1: Of(%v) = %d", was, sort.Of(was))
	}
	for k, n := range was {
		for _, wrong := range []api.Node{
			{Kind: n.Kind, Name: "A", Sign: n.Sign}, {Kind: n.Kind, Name: "abcdefghi", Sign: n.Sign}, {Kind: n.Kind, Name: "skip", Sign: n.Sign},
			{Kind: n.Kind, Name: n.Name, Sign: 4}, {Kind: n.Kind, Name: n.Name, Sign: -1}, {Kind: n.Kind, Name: "a", Sign: api.Tick},
			{Kind: 0, Name: n.Name, Sign: n.Sign}, {Kind: -n.Kind}, {Kind: n.Kind + 1<<32}, {Kind: api.End + 1}, {Kind: math.MinInt}, {Kind: math.MaxInt},
		} {
			l := slices.Clone(was)
			l[k] = wrong
			isNothing(t, l, "a node is wrong")
		}
	}
	for _, n := range []api.Node{{}, {Kind: api.Act}, {Kind: api.Act, Name: "throww"}, {Kind: api.Over}, {Kind: api.Skip, Name: "a"}, {Kind: api.Yield, Sign: api.Query}} {
		isNothing(t, []api.Node{n}, "a node is wrong")
	}
	isNothing(t, []api.Node{{Kind: api.End}, a}, "a node is wrong")
}

// chain is a term of so many nodes, 1 or 3 or more. A Block of a Pair makes the number even, which nodes of two alone can't.
func chain(long int) []api.Node {
	l := []api.Node{a}
	if long%2 == 0 {
		l = []api.Node{block, pair, a, b}
	}
	for len(l) < long {
		l = row.Make(seq, l, []api.Node{skip})
	}
	return l
}

// bushy is a term of so many nodes, 1 or 3 or more, that is far less deep than it is long.
func bushy(long int) []api.Node {
	if long == 1 {
		return []api.Node{a}
	}
	if long == 4 {
		return []api.Node{block, pair, a, b}
	}
	half := (long - 1) / 2
	if half%2 == 0 {
		half--
	}
	return row.Make(alt, bushy(half), bushy(long-1-half))
}

func TestAsLongAsATreeMayBe(t *testing.T) {
	for long := api.MaxRow - 4; long <= api.MaxRow+4; long++ {
		l := chain(long)
		if len(l) != long {
			t.Fatalf("a chain of %d has %d nodes", long, len(l))
		}
		if got := sort.Term(l); got != (long <= api.MaxRow) || sort.On(l, false) != got || sort.On(l, true) || (sort.Of(l) == sort.Plain) != got {
			t.Errorf("P4.1: a term of %d nodes: %v", long, got)
		}
	}
	for pairs := 48; pairs <= 52; pairs++ {
		l := []api.Node{end, a}
		for range pairs {
			l = row.Make(seq, l, []api.Node{pair, a, b})
		}
		if got := sort.On(l, true); got != (len(l) <= api.MaxRow) || (sort.Of(l) == sort.PairedOn) != got {
			t.Errorf("P4.1: %d nodes that go on paired: %v", len(l), got)
		}
	}
}

func TestAsLongAsATermMayBegin(t *testing.T) {
	for long := api.MaxNodes - 4; long <= api.MaxNodes+4; long++ {
		l := bushy(long)
		if len(l) != long || row.Depth(l) > api.MaxDepth {
			t.Fatalf("a bush of %d has %d nodes and is %d deep", long, len(l), row.Depth(l))
		}
		if !sort.Term(l) || sort.Right(l) != (long <= api.MaxNodes) {
			t.Errorf("P4.1: Right of a term of %d nodes = %v", long, sort.Right(l))
		}
	}
}

func TestAsDeepAsATermMayBegin(t *testing.T) {
	for deep := 2; deep <= api.MaxDepth+4; deep++ {
		l, r := []api.Node{a}, []api.Node{pair, a, b}
		for range deep - 1 {
			l = row.Make(hand, []api.Node{skip}, l)
		}
		for range deep - 3 {
			r = row.Make(par, r, []api.Node{pair, a, b})
		}
		r = row.Make(block, r)
		for _, l := range [][]api.Node{l, r} {
			is := row.Depth(l) <= api.MaxDepth && len(l) <= api.MaxNodes
			if !sort.Term(l) || sort.Right(l) != is {
				t.Errorf("P4.1: Right of a term that is %d deep, of %d nodes, = %v", row.Depth(l), len(l), sort.Right(l))
			}
		}
		if row.Depth(l) != deep {
			t.Fatalf("a term that should be %d deep is %d deep", deep, row.Depth(l))
		}
	}
}

func TestRightIsOfPlainTermsAlone(t *testing.T) {
	for s, x := range samples {
		if got := sort.Right(x.l); got != (s == sort.Plain) {
			t.Errorf("P4.1: Right of one that is %s = %v", x.name, got)
		}
		if got := sort.Term(x.l); got != (s == sort.Plain) {
			t.Errorf("P4.1: Term of one that is %s = %v", x.name, got)
		}
	}
}

// Far longer and deeper than any tree is: what is told of it comes quickly.
func TestLongRows(t *testing.T) {
	deep := 1 << 16
	for _, l := range [][]api.Node{
		append(slices.Repeat([]api.Node{block}, deep), pair, a, b),
		append(slices.Repeat([]api.Node{seq}, deep), slices.Repeat([]api.Node{a}, deep+1)...),
		append(slices.Repeat([]api.Node{seq, a}, deep), a),
		slices.Repeat([]api.Node{par}, deep),
		slices.Repeat([]api.Node{a}, deep),
		slices.Repeat([]api.Node{{}}, deep),
	} {
		isNothing(t, l, "it is far too long")
	}
	var l []api.Node
	var want []string
	for k := range deep {
		name := strconv.Itoa(k)
		l, want = append(l, api.Node{Kind: api.Act, Name: name}, seq, api.Node{Kind: api.Act, Name: name}), append(want, name)
	}
	if !slices.Equal(sort.Acts(append(l, l...)), want) {
		t.Error("P4.2: Acts of a long row")
	}
}

func TestActs(t *testing.T) {
	act := func(name string) api.Node { return api.Node{Kind: api.Act, Name: name} }
	for _, c := range []struct {
		l    []api.Node
		want []string
	}{
		{nil, nil}, {[]api.Node{}, nil}, {[]api.Node{skip}, nil}, {[]api.Node{seq, over, yield}, nil},
		{[]api.Node{a}, []string{"a"}},
		{[]api.Node{seq, b, a}, []string{"b", "a"}},
		{[]api.Node{seq, b, seq, a, b}, []string{"b", "a"}},
		{[]api.Node{par, alt, act("z"), act("ab"), hand, act("a"), alt, act("z"), seq, act("abc"), act("a")}, []string{"z", "ab", "a", "abc"}},
		{[]api.Node{block, stack, end, b, going, a, b}, []string{"b", "a"}},
		// Of any sort, or none; and where there is no tree.
		{[]api.Node{pair, over, a}, []string{"a"}},
		{[]api.Node{a, a, b, a}, []string{"a", "b"}},
		{[]api.Node{seq, b}, []string{"b"}},
		// What is no Act has no name that counts.
		{[]api.Node{{Kind: api.Skip, Name: "x"}, {Kind: 0, Name: "y"}, {Kind: 1 << 32, Name: "z"}, {Kind: -api.Act, Name: "w"}, a}, []string{"a"}},
	} {
		if got := sort.Acts(c.l); !slices.Equal(got, c.want) {
			t.Errorf("P4.2: Acts(%v) = %q, want %q", c.l, got, c.want)
		}
	}
}

func TestAskingLeavesTheRow(t *testing.T) {
	for _, was := range [][]api.Node{{}, {a}, {seq, a, b}, {block, stack, end, a, b}, {pair, over, a}, {seq, a}} {
		spare := api.Node{Kind: api.Yield, Name: "spare", Sign: 5}
		full := append(slices.Clone(was), spare, spare)
		kept := slices.Clone(full)
		l := full[:len(was)]
		s, names := sort.Of(l), sort.Acts(l)
		term, plain, paired, right := sort.Term(l), sort.On(l, false), sort.On(l, true), sort.Right(l)
		if !slices.Equal(full, kept) {
			t.Errorf("R5: %v was changed", was)
		}
		want := slices.Clone(names)
		clear(full)
		if !slices.Equal(names, want) {
			t.Errorf("R6: Acts of %v changed with it", was)
		}
		for k := range names[:cap(names)] {
			names[:cap(names)][k] = "spoilt"
		}
		copy(full, kept)
		if !slices.Equal(sort.Acts(l), want) || !slices.Equal(full, kept) {
			t.Errorf("R6: to write into the Acts of %v changed what is told", was)
		}
		if sort.Of(l) != s || sort.Term(l) != term || sort.On(l, false) != plain || sort.On(l, true) != paired || sort.Right(l) != right {
			t.Errorf("R7: of %v another thing is told the second time", was)
		}
	}
}
