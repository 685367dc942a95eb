package cost_test

import (
	"math"
	"slices"
	"testing"

	"redress/api"
	"redress/cost"
	"redress/parse"
)

// costs holds what is told of l against that.
func costs(t *testing.T, l []api.Node, of, most, least int) {
	t.Helper()
	if x, y, z := cost.Of(l), cost.Most(l), cost.Least(l); x != of || y != most || z != least {
		t.Errorf("P15.1: Of, Most, Least of %s = %d, %d, %d, want %d, %d, %d", text(l[:min(len(l), 30)]), x, y, z, of, most, least)
	}
}

func TestTreesByHand(t *testing.T) {
	for _, c := range []struct {
		words           string
		of, most, least int
	}{
		// The chapter's example.
		{"alt a seq b c", 4, 3, 2},
		// What has no tree behind it.
		{"a", 1, 1, 1}, {"yield", 1, 1, 1}, {"skip", 0, 0, 0}, {"throw", 0, 0, 0}, {"ok", 0, 0, 0}, {"!", 0, 0, 0}, {"?", 0, 0, 0},
		// What has two, each with another cost, so that each of them counts.
		{"seq a seq b c", 3, 3, 3}, {"seq seq a b c", 3, 3, 3}, {"seq skip a", 1, 1, 1}, {"seq a skip", 1, 1, 1},
		{"par a par b yield", 3, 3, 3}, {"par ! a", 1, 1, 1}, {"par a ?", 1, 1, 1},
		{"hand a hand b c", 3, 3, 3}, {"hand throw a", 1, 1, 1}, {"hand a throw", 1, 1, 1}, {"hand ok a", 1, 1, 1},
		{"pair a seq b c", 4, 4, 4}, {"pair skip skip", 1, 1, 1}, {"pair a skip", 2, 2, 2}, {"pair skip a", 2, 2, 2},
		{"going a seq b c", 3, 3, 3}, {"going ok skip", 0, 0, 0}, {"going ? a", 1, 1, 1}, {"going a throw", 1, 1, 1},
		{"stack pair a b c", 4, 4, 4}, {"stack end-ok a b", 2, 2, 2}, {"stack end-! skip skip", 0, 0, 0}, {"stack going a b skip", 2, 2, 2},
		{"seq pair a b pair c d", 6, 6, 6}, {"par pair skip skip end-! a", 2, 2, 2}, {"seq end-? a pair b c", 4, 4, 4},
		// What has one.
		{"block pair a b", 3, 3, 3}, {"block end-ok a", 1, 1, 1}, {"block end-? skip", 0, 0, 0},
		{"end-ok a", 1, 1, 1}, {"end-! seq a b", 2, 2, 2}, {"end-? skip", 0, 0, 0}, {"end-! alt a skip", 2, 2, 1},
		// What is chosen from: 1, and one of the two.
		{"alt skip throw", 1, 1, 1}, {"alt a skip", 2, 2, 1}, {"alt skip a", 2, 2, 1}, {"alt a b", 3, 2, 2}, {"alt seq a b c", 4, 3, 2},
		{"alt alt a skip seq b c", 5, 3, 2}, {"alt alt a b skip", 4, 3, 1}, {"alt skip alt a seq b c", 5, 4, 1}, {"alt alt seq a b c yield", 6, 4, 2},
		{"alt pair a b pair skip skip", 5, 4, 2}, {"alt pair skip skip pair a seq b c", 6, 5, 2}, {"block alt pair a b pair c d", 7, 4, 4},
		{"seq alt a skip alt skip b", 4, 4, 2}, {"par alt a skip alt b seq c d", 6, 5, 3}, {"hand alt a b alt skip yield", 5, 4, 3}, {"pair alt a skip alt skip b", 5, 5, 3},
		{"going alt a skip alt skip b", 4, 4, 2}, {"stack alt pair a b pair skip skip alt skip c", 7, 6, 3}, {"block going alt a skip b", 3, 3, 2},
		// As it goes on: what is over costs nothing any more.
		{"seq ok a", 1, 1, 1}, {"par ok alt a skip", 2, 2, 1}, {"block stack going par ok a b seq c d", 4, 4, 4}, {"block par pair a alt b skip end-! c", 5, 5, 4},
	} {
		costs(t, tree(c.words), c.of, c.most, c.least)
	}
}

func TestTermsByHand(t *testing.T) {
	for s, want := range map[string][3]int{
		"skip":                              {0, 0, 0},
		"a ; b ; c":                         {3, 3, 3},
		"a | b | yield":                     {3, 3, 3},
		"(a + throw) > c":                   {3, 3, 2},
		"[a/b ; throww]":                    {4, 4, 4},
		"[skipp]":                           {1, 1, 1},
		"[yieldd]":                          {2, 2, 2},
		"[throww]":                          {1, 1, 1},
		"[a/b ; c/d] | e":                   {7, 7, 7},
		"[a/b + c/(d ; d)]":                 {8, 5, 4},
		"(a + skip) | (a + b ; c)":          {6, 5, 3},
		"((a + skip) + (b + c)) + (d ; e)":  {9, 4, 3},
		"[(a + (b ; c))/(d + skip)] + skip": {8, 7, 1},
	} {
		l, _, e := parse.Parse(s)
		if e != api.OK {
			t.Fatalf("%s is no term: %d", s, e)
		}
		costs(t, l, want[0], want[1], want[2])
	}
}

// What is no tree, or of no sort, still has nodes; but nothing is done from it on.
func TestWhatIsOfNoSort(t *testing.T) {
	for words, of := range map[string]int{
		"": 0, "a a": 2, "seq": 0, "alt": 1, "pair": 1, "seq a": 1, "alt a": 2, "alt a b c": 4, "pair a": 2, "block": 0, "a yield alt pair": 4, "skip throw": 0,
		"seq a ok": 1, "hand a ok": 1, "alt ok a": 2, "alt a ?": 2, "alt end-ok a pair b c": 5, "pair ok a": 2, "pair a !": 2, "going a ok": 1, "stack pair a b ok": 3, "end-ok ok": 0,
		"block a": 1, "block alt a b": 3, "end-ok pair a b": 3, "seq pair a b c": 4, "seq a pair b c": 4, "par a pair b c": 4, "par pair a b !": 3, "alt a pair b c": 5, "hand pair a b pair c d": 6,
		"pair pair a b c": 5, "going pair a b c": 4, "stack a b": 2, "stack end-ok a pair b c": 4, "seq a b seq": 2, "seq a alt b": 3,
	} {
		costs(t, tree(words), of, 0, 0)
	}
}

// Of counts by kinds alone; a tree with a wrong node in it goes nowhere.
func TestWrongNodes(t *testing.T) {
	for _, c := range []struct {
		n  api.Node
		of int
	}{
		{api.Node{Kind: api.Act}, 1}, {api.Node{Kind: api.Act, Name: "skip"}, 1}, {api.Node{Kind: api.Act, Name: "A"}, 1}, {api.Node{Kind: api.Act, Name: "abcdefghi"}, 1}, {api.Node{Kind: api.Act, Name: "a", Sign: api.Tick}, 1},
		{api.Node{Kind: api.Yield, Name: "a"}, 1}, {api.Node{Kind: api.Yield, Sign: api.Query}, 1},
		{api.Node{Kind: api.Skip, Name: "a"}, 0}, {api.Node{Kind: api.Throw, Sign: api.Bang}, 0}, {api.Node{Kind: api.Over}, 0}, {api.Node{Kind: api.Over, Sign: 4}, 0}, {api.Node{Kind: api.Over, Sign: -1}, 0},
		{api.Node{}, 0}, {api.Node{Name: "a"}, 0}, {api.Node{Kind: -api.Act, Name: "a"}, 0}, {api.Node{Kind: api.End + 1}, 0}, {api.Node{Kind: 256 + api.Act, Name: "a"}, 0}, {api.Node{Kind: 1<<32 + api.Yield}, 0},
		{api.Node{Kind: math.MinInt}, 0}, {api.Node{Kind: math.MinInt + api.Act, Name: "a"}, 0}, {api.Node{Kind: math.MaxInt}, 0},
	} {
		costs(t, []api.Node{c.n}, c.of, 0, 0)
		costs(t, []api.Node{nodes["seq"], c.n, c.n}, 2*c.of, 0, 0)
		costs(t, slices.Concat(tree("par a alt"), []api.Node{c.n}, tree("b")), c.of+3, 0, 0)
	}
	for _, n := range []api.Node{{Kind: api.Alt, Name: "a"}, {Kind: api.Alt, Sign: api.Tick}, {Kind: api.Seq, Name: "a"}, {Kind: api.Par, Sign: api.Bang}, {Kind: api.Hand, Sign: 9}} {
		of := 2
		if n.Kind == api.Alt {
			of = 3
		}
		costs(t, append([]api.Node{n}, tree("a b")...), of, 0, 0)
	}
	costs(t, append([]api.Node{{Kind: api.End}}, tree("a")...), 1, 0, 0)
	costs(t, slices.Concat(tree("block"), []api.Node{{Kind: api.Pair, Name: "a"}}, tree("a b")), 3, 0, 0)
}

func crashed(t *testing.T, l []api.Node, crashes, want int) {
	t.Helper()
	if got := cost.Crashed(l, crashes); got != want {
		t.Errorf("P15.2: Crashed(%s, %d) = %d, want %d", text(l[:min(len(l), 30)]), crashes, got, want)
	}
}

func TestCrashed(t *testing.T) {
	for _, c := range []struct {
		words string
		of    int
	}{
		{"", 0}, {"skip", 0}, {"ok", 0}, {"a", 1}, {"a a", 2}, {"alt a seq b c", 4}, {"alt skip skip", 1}, {"block par pair a alt b skip end-! c", 5},
		// Of no sort: it is Of that counts, and not Most.
		{"seq a ok", 1}, {"alt", 1}, {"seq pair a", 2}, {"pair pair a b c", 5},
	} {
		l := tree(c.words)
		for _, crashes := range []int{0, 1, 2, 3, 9, 1000, 1<<20 - 1, 1 << 20} {
			want := 0
			for range crashes + 1 {
				want += c.of + 1
			}
			crashed(t, l, crashes, want)
		}
		for _, crashes := range []int{-1, -2, -1 << 20, math.MinInt32, math.MinInt, math.MinInt + 1, 1<<20 + 1, 1<<20 + 2, 1 << 21, math.MaxInt32, 1 << 32, 1<<32 + 1, math.MaxInt - 1, math.MaxInt} {
			crashed(t, l, crashes, 0)
		}
	}
}
