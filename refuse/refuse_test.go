package refuse_test

import (
	"math"
	"slices"
	"testing"

	"redress/api"
	"redress/refuse"
)

var (
	a     = api.Node{Kind: api.Act, Name: "a"}
	b     = api.Node{Kind: api.Act, Name: "b"}
	skip  = api.Node{Kind: api.Skip}
	throw = api.Node{Kind: api.Throw}
	block = api.Node{Kind: api.Block}
	seq   = api.Node{Kind: api.Seq}
	alt   = api.Node{Kind: api.Alt}
	par   = api.Node{Kind: api.Par}
	pair  = api.Node{Kind: api.Pair}

	// Nodes that stand in no tree, but may in a row.
	noName    = api.Node{Kind: api.Act}
	signedA   = api.Node{Kind: api.Act, Name: "a", Sign: api.Query}
	seqA      = api.Node{Kind: api.Seq, Name: "a"}
	noKindA   = api.Node{Name: "a"}
	altA      = api.Node{Kind: api.Alt, Name: "a"}
	altTick   = api.Node{Kind: api.Alt, Sign: api.Tick}
	throwA    = api.Node{Kind: api.Throw, Name: "a"}
	throwBang = api.Node{Kind: api.Throw, Sign: api.Bang}
)

func nodes(l ...api.Node) []api.Node { return l }

func names(l ...string) []string { return l }

func TestRewrite(t *testing.T) {
	for _, c := range []struct {
		l     []api.Node
		names []string
		want  []api.Node
	}{
		{nodes(seq, a, b), names("b"), nodes(seq, a, alt, b, throw)},
		{nodes(seq, a, b), names("a"), nodes(seq, alt, a, throw, b)},
		{nodes(seq, a, b), names("a", "b"), nodes(seq, alt, a, throw, alt, b, throw)},
		{nodes(seq, a, b), names("b", "a"), nodes(seq, alt, a, throw, alt, b, throw)},
		{nodes(seq, a, b), names("b", "c", "b", "b"), nodes(seq, a, alt, b, throw)},
		{nodes(seq, a, b), names("c", "ab", "", "aa", "A"), nodes(seq, a, b)},
		{nodes(seq, a, b), nil, nodes(seq, a, b)},
		{nodes(a), names("a"), nodes(alt, a, throw)},
		{nodes(par, a, seq, b, a), names("a"), nodes(par, alt, a, throw, seq, b, alt, a, throw)},
		{nodes(block, pair, a, b), names("b"), nodes(block, pair, a, alt, b, throw)},
		{nodes(alt, a, throw), names("a"), nodes(alt, alt, a, throw, throw)},
		{nodes(alt, a, throw), names("b"), nodes(alt, a, throw)},
		{nodes(seq, skip, throw), names("", "skip", "throw"), nodes(seq, skip, throw)},
		{nil, names("a"), nil},
		{nil, nil, nil},
	} {
		if got := refuse.Rewrite(c.l, c.names...); !slices.Equal(got, c.want) {
			t.Errorf("P8.1: Rewrite(%v, %q) = %v, want %v", c.l, c.names, got, c.want)
		}
	}
}

// An Act goes by its kind and its name; other nodes may have that name, too.
func TestRewriteOfAnyRow(t *testing.T) {
	for _, c := range []struct {
		l     []api.Node
		names []string
		want  []api.Node
	}{
		{nodes(a, a, a), names("a"), nodes(alt, a, throw, alt, a, throw, alt, a, throw)},
		{nodes(seqA, noKindA, altA, throwA), names("a"), nodes(seqA, noKindA, altA, throwA)},
		{nodes(signedA, noName), names("a"), nodes(alt, signedA, throw, noName)},
		{nodes(signedA, noName, seq), names(""), nodes(signedA, alt, noName, throw, seq)},
		{nodes(api.Node{Kind: -1}, api.Node{Kind: 99, Name: "a"}, a), names("a"), nodes(api.Node{Kind: -1}, api.Node{Kind: 99, Name: "a"}, alt, a, throw)},
		{nodes(throw, a, alt), names("a"), nodes(throw, alt, a, throw, alt)},
	} {
		if got := refuse.Rewrite(c.l, c.names...); !slices.Equal(got, c.want) {
			t.Errorf("P8.1: Rewrite(%v, %q) = %v, want %v", c.l, c.names, got, c.want)
		}
	}
}

func TestPlaces(t *testing.T) {
	l := nodes(seq, a, par, seqA, a, alt, b, noName, a, noKindA, signedA)
	for _, c := range []struct {
		name string
		want []int
	}{{"a", []int{1, 4, 8, 10}}, {"b", []int{6}}, {"", []int{7}}, {"c", nil}, {"ab", nil}, {"A", nil}} {
		if got := refuse.Places(l, c.name); !slices.Equal(got, c.want) {
			t.Errorf("P8.1: Places(%v, %q) = %v, want %v", l, c.name, got, c.want)
		}
	}
	if got := refuse.Places(nodes(a), "a"); !slices.Equal(got, []int{0}) {
		t.Errorf("P8.1: Places of an Act alone = %v, want 0", got)
	}
	if got := refuse.Places(nil, "a"); len(got) != 0 {
		t.Errorf("P8.1: Places in an empty row = %v", got)
	}
}

func TestMark(t *testing.T) {
	l := nodes(seq, a, seq, b, a)
	for _, c := range []struct {
		at   int
		want []api.Node
	}{
		{1, nodes(seq, alt, a, throw, seq, b, a)},
		{3, nodes(seq, a, seq, alt, b, throw, a)},
		{4, nodes(seq, a, seq, b, alt, a, throw)},
		{0, l}, {2, l}, {5, l}, {6, l}, {-1, l}, {-4, l}, {math.MaxInt, l}, {math.MinInt, l},
	} {
		if got := refuse.Mark(l, c.at); !slices.Equal(got, c.want) {
			t.Errorf("P8.1: Mark(%v, %d) = %v, want %v", l, c.at, got, c.want)
		}
	}
}

func TestMarkOfAnyRow(t *testing.T) {
	for _, c := range []struct {
		l    []api.Node
		at   int
		want []api.Node
	}{
		{nodes(a), 0, nodes(alt, a, throw)},
		{nodes(a, a), 0, nodes(alt, a, throw, a)},
		{nodes(alt, a, throw), 1, nodes(alt, alt, a, throw, throw)},
		{nodes(seqA, noKindA), 0, nodes(seqA, noKindA)},
		{nodes(seqA, noKindA), 1, nodes(seqA, noKindA)},
		{nodes(b, noName), 1, nodes(b, alt, noName, throw)},
		{nodes(signedA, b), 0, nodes(alt, signedA, throw, b)},
		{nil, 0, nil},
		{nil, -1, nil},
	} {
		if got := refuse.Mark(c.l, c.at); !slices.Equal(got, c.want) {
			t.Errorf("P8.1: Mark(%v, %d) = %v, want %v", c.l, c.at, got, c.want)
		}
	}
}

func TestStrip(t *testing.T) {
	for _, c := range []struct{ l, want []api.Node }{
		{nodes(alt, a, throw), nodes(a)},
		{nodes(seq, a, alt, b, throw), nodes(seq, a, b)},
		{nodes(seq, alt, a, throw, alt, b, throw), nodes(seq, a, b)},
		{nodes(alt, a, throw, alt, a, throw, alt, a, throw), nodes(a, a, a)},
		{nodes(alt, a, throw, throw), nodes(a, throw)},
		{nodes(alt, a, throw, a, throw), nodes(a, a, throw)},
		// Read once: what comes to stand together is not read again.
		{nodes(alt, alt, a, throw, throw), nodes(alt, a, throw)},
		{nodes(alt, alt, alt, a, throw, throw, throw), nodes(alt, alt, a, throw, throw)},
		{nodes(alt, a, alt, b, throw), nodes(alt, a, b)},
		// In another order, or of others, it stays.
		{nodes(alt, throw, a), nodes(alt, throw, a)},
		{nodes(alt, a, b), nodes(alt, a, b)},
		{nodes(alt, a, skip), nodes(alt, a, skip)},
		{nodes(alt, skip, throw), nodes(alt, skip, throw)},
		{nodes(alt, throw, throw), nodes(alt, throw, throw)},
		{nodes(par, a, throw), nodes(par, a, throw)},
		{nodes(seq, a, throw), nodes(seq, a, throw)},
		{nodes(alt, alt, throw), nodes(alt, alt, throw)},
		{nodes(alt, seq, a, b, throw), nodes(alt, seq, a, b, throw)},
		{nodes(alt, api.Node{Kind: api.Act, Name: "a"}, api.Node{Kind: api.Yield}), nodes(alt, a, api.Node{Kind: api.Yield})},
		// Cut short, it stays.
		{nodes(alt, a), nodes(alt, a)},
		{nodes(alt), nodes(alt)},
		{nodes(b, alt, a), nodes(b, alt, a)},
		{nodes(a, throw), nodes(a, throw)},
		{nil, nil},
	} {
		if got := refuse.Strip(c.l); !slices.Equal(got, c.want) {
			t.Errorf("P8.2: Strip(%v) = %v, want %v", c.l, got, c.want)
		}
	}
}

// The Alt and the Throw have neither a name nor a sign; of the Act nothing is asked but its kind.
func TestStripOfAnyRow(t *testing.T) {
	for _, c := range []struct{ l, want []api.Node }{
		{nodes(altA, a, throw), nodes(altA, a, throw)},
		{nodes(altTick, a, throw), nodes(altTick, a, throw)},
		{nodes(alt, a, throwA), nodes(alt, a, throwA)},
		{nodes(alt, a, throwBang), nodes(alt, a, throwBang)},
		{nodes(alt, noName, throw), nodes(noName)},
		{nodes(alt, signedA, throw), nodes(signedA)},
		{nodes(alt, noKindA, throw), nodes(alt, noKindA, throw)},
		{nodes(alt, seqA, throw), nodes(alt, seqA, throw)},
		{nodes(noKindA, a, throw), nodes(noKindA, a, throw)},
	} {
		if got := refuse.Strip(c.l); !slices.Equal(got, c.want) {
			t.Errorf("P8.2: Strip(%v) = %v, want %v", c.l, got, c.want)
		}
	}
}

// No limit is named for these rows: they may be longer than any tree.
func TestLongRows(t *testing.T) {
	const long = 200_000
	l, want := slices.Repeat(nodes(a, b, seq), long), slices.Repeat(nodes(a, alt, b, throw, seq), long)
	many := make([]string, 0, long)
	for k := range long {
		many = append(many, string([]byte{'0' + byte(k>>12), '0' + byte(k>>6&63), '0' + byte(k&63)}))
	}
	if got := refuse.Rewrite(l, append(many, "b")...); !slices.Equal(got, want) {
		t.Errorf("P8.1: Rewrite of a long row has %d nodes, want %d", len(got), len(want))
	}
	if got := refuse.Strip(want); !slices.Equal(got, l) {
		t.Errorf("P8.2: Strip of a long row has %d nodes, want %d", len(got), len(l))
	}
	if got := refuse.Places(l, "b"); len(got) != long || got[long-1] != 3*long-2 {
		t.Errorf("P8.1: Places in a long row are %d", len(got))
	}
	if got := refuse.Mark(l, 3*long-2); len(got) != len(l)+2 || !slices.Equal(got[3*long-2:], nodes(alt, b, throw, seq)) {
		t.Errorf("P8.1: Mark of a long row has %d nodes", len(got))
	}
}
