package doom_test

import (
	"slices"
	"strings"
	"testing"

	"redress/api"
	"redress/doom"
	"redress/row"
	"redress/settle"
	"redress/sort"
)

// branch is a tree with all that is above it, read from a row: which one it is of those behind the node above it, and at which place.
type branch struct {
	n    api.Node
	at   int
	kid  int
	up   *branch
	kids []*branch
	l    []api.Node
}

// grow reads the tree with which l begins.
func grow(l []api.Node, at, kid int, up *branch) *branch {
	b := &branch{n: l[0], at: at, kid: kid, up: up}
	size := 1
	for k := range arities[wordOf(l[0])] {
		x := grow(l[size:], at+size, k, b)
		size += len(x.l)
		b.kids = append(b.kids, x)
	}
	b.l = l[:size]
	return b
}

// all is this tree, and all within it, by place.
func (b *branch) all() []*branch {
	l := []*branch{b}
	for _, x := range b.kids {
		l = append(l, x.all()...)
	}
	return l
}

// resting is, for each kind, which of the trees behind it have not begun.
var resting = map[int]string{
	api.Seq: "1", api.Hand: "1", api.Going: "1", api.Stack: "1", api.Alt: "01", api.Pair: "01", api.End: "0",
}

// goesOn tells whether the node goes on, and so all above it.
func (b *branch) goesOn() bool {
	for ; b.up != nil; b = b.up {
		if strings.Contains(resting[b.up.n.Kind], string(rune('0'+b.kid))) {
			return false
		}
	}
	return true
}

// waits tells whether it is one of the four kinds that are told.
func (b *branch) waits() bool {
	return row.Count([]api.Node{b.n}, api.Act, api.Alt, api.Yield, api.Pair) == 1
}

// thrown tells whether it is doomed, of what is settled.
func (b *branch) thrown() bool {
	switch b.n.Kind {
	case api.Par:
		return b.kids[0].thrown() || b.kids[1].thrown()
	case api.Seq, api.Going, api.Stack:
		return b.kids[0].thrown()
	case api.Over, api.End:
		return b.n.Sign == api.Bang
	}
	return false
}

// beside is what stands beside it, up to the innermost block, and whether there is such a block.
func (b *branch) beside() (l []*branch, block bool) {
	for ; b.up != nil; b = b.up {
		switch b.up.n.Kind {
		case api.Block:
			return l, true
		case api.Par:
			l = append(l, b.up.kids[1-b.kid])
		}
	}
	return l, false
}

// told is all that is told of a tree.
type told struct {
	active, free []int
	doomed       bool
	beside       map[int][]string
}

// reading is what the document's sentences tell of the tree l.
func reading(l []api.Node) told {
	want := told{beside: map[int][]string{}}
	if !settle.Settled(l) {
		return want
	}
	top := grow(l, 0, 0, nil)
	want.doomed = top.thrown()
	for _, b := range top.all() {
		if !b.waits() || !b.goesOn() {
			continue
		}
		beside, block := b.beside()
		want.active = append(want.active, b.at)
		free := !block
		for _, x := range beside {
			want.beside[b.at] = append(want.beside[b.at], text(x.l))
			free = free || x.thrown()
		}
		if free {
			want.free = append(want.free, b.at)
		}
	}
	return want
}

// isAsRead holds all that is told of l against what the document's sentences tell.
func isAsRead(t *testing.T, l []api.Node) told {
	t.Helper()
	want := reading(l)
	if got := doom.Active(l); !slices.Equal(got, want.active) {
		t.Fatalf("P11.1: Active(%s) = %v, want %v", text(l), got, want.active)
	}
	if got := doom.Doomed(l); got != want.doomed {
		t.Fatalf("P11.2: Doomed(%s) = %v", text(l), got)
	}
	for at := -1; at <= len(l); at++ {
		if got := texts(doom.Beside(l, at)); !slices.Equal(got, want.beside[at]) {
			t.Fatalf("P11.3: Beside(%s, %d) = %q, want %q", text(l), at, got, want.beside[at])
		}
		if got := doom.Free(l, at); got != slices.Contains(want.free, at) {
			t.Fatalf("P11.3: Free(%s, %d) = %v", text(l), at, got)
		}
	}
	return want
}

// The words that have one tree behind them, and those that have two.
var (
	ones = []string{"block", "end-ok", "end-!", "end-?"}
	twos = []string{"seq", "alt", "par", "hand", "pair", "going", "stack"}
)

// grown is all trees of up to so many nodes that are, or go on, plain or paired, of these words: what is of no sort is left out, as no tree of a sort has it.
func grown(most int, leaves, ones, twos []string) []string {
	bySize := [][]string{nil}
	for long := 1; long <= most; long++ {
		var l []string
		keep := func(words string) {
			if sort.Of(tree(words)) != sort.None {
				l = append(l, words)
			}
		}
		if long == 1 {
			l = slices.Clone(leaves)
		}
		for _, x := range bySize[long-1] {
			for _, word := range ones {
				keep(word + " " + x)
			}
		}
		for left := 1; left < long-1; left++ {
			for _, x := range bySize[left] {
				for _, y := range bySize[long-1-left] {
					for _, word := range twos {
						keep(word + " " + x + " " + y)
					}
				}
			}
		}
		bySize = append(bySize, l)
	}
	return slices.Concat(bySize...)
}

// everyTree is all trees of up to 5 nodes, longer ones of few words, and in a block, alone and beside what has thrown, those of them that may be.
func everyTree() []string {
	l := slices.Concat(
		grown(5, []string{"a", "skip", "throw", "yield", "ok", "!", "?"}, ones, twos),
		grown(8, []string{"a", "!"}, []string{"block", "end-!"}, []string{"par", "pair", "going"}),
		grown(7, []string{"a", "!"}, []string{"block", "end-!"}, []string{"par", "seq", "hand", "stack", "pair"}),
		grown(7, []string{"a", "yield"}, []string{"block", "end-?"}, []string{"par", "alt", "going", "pair"}),
	)
	for _, words := range slices.Clone(l) {
		if sort.On(tree(words), true) {
			l = append(l, "block "+words, "par ! block "+words)
		}
	}
	return l
}

func TestEveryTree(t *testing.T) {
	active, free, doomed := 0, 0, 0
	for _, words := range everyTree() {
		got := isAsRead(t, tree(words))
		active += len(got.active)
		free += len(got.free)
		if got.doomed {
			doomed++
		}
	}
	if free < 1000 || active-free < 1000 || doomed < 1000 {
		t.Errorf("only %d places that are free were tried, of %d, and %d trees that are doomed", free, active, doomed)
	}
}

// All rows of a few words: most of them are no trees, and of the trees most are of no sort.
func TestEveryRow(t *testing.T) {
	words := []string{"a", "!", "?", "block", "end-!", "seq", "par", "hand", "alt", "pair", "going", "stack"}
	last := []string{""}
	for range 5 {
		var next []string
		for _, l := range last {
			for _, word := range words {
				next = append(next, strings.TrimSpace(l+" "+word))
			}
		}
		for _, words := range next {
			l := tree(words)
			if settle.Settled(l) {
				isAsRead(t, l)
			} else if len(doom.Active(l)) > 0 || doom.Doomed(l) || doom.Free(l, 0) || doom.Free(l, len(l)-1) || len(doom.Beside(l, len(l)-1)) > 0 {
				t.Fatalf("P11: of %s, which is not settled: Active %v, Doomed %v, Free %v", words, doom.Active(l), doom.Doomed(l), freeOf(l))
			}
		}
		last = next
	}
}

// chance is a row of numbers that is always the same.
type chance uint32

func (by *chance) below(n int) int {
	*by = *by*1664525 + 1013904223
	return int(*by>>8) % n
}

// one is one of the words.
func (by *chance) one(words ...string) string {
	return words[by.below(len(words))]
}

// plain is a tree of about so many nodes that is plain, or goes on so, by chance. Most of what goes on stands side by side.
func (by *chance) plain(on bool, long int) string {
	if long < 3 {
		if on {
			return by.one("a", "yield", "alt a b", "ok", "!", "?", "a", "a")
		}
		return by.one("a", "b", "skip", "throw", "yield")
	}
	first := 1 + by.below(long-2)
	second := long - 1 - first
	word := by.one("par", "par", "seq", "hand", "block", "block")
	switch {
	case word == "block":
		return "block " + by.paired(on, long-1)
	case on && word == "par":
		return "par " + by.plain(true, first) + " " + by.plain(true, second)
	}
	return word + " " + by.plain(on, first) + " " + by.plain(false, second)
}

// paired is the same of one that is paired.
func (by *chance) paired(on bool, long int) string {
	first := 1 + by.below(max(1, long-2))
	second := long - 1 - first
	if long < 6 {
		switch {
		case on && by.below(4) == 0:
			return by.one("end-ok ", "end-! ", "end-? ", "end-! ") + by.plain(false, 1)
		case on && by.below(2) == 0:
			return "going " + by.plain(true, first) + " " + by.plain(false, second)
		}
		return "pair " + by.plain(false, first) + " " + by.plain(false, second)
	}
	word := by.one("par", "par", "par", "seq", "stack", "going")
	switch {
	case !on && (word == "stack" || word == "going"):
		word = "alt"
	case word == "stack":
		return "stack " + by.paired(true, first) + " " + by.plain(false, second)
	case word == "going":
		return "going " + by.plain(true, first) + " " + by.plain(false, second)
	}
	return word + " " + by.paired(on, first) + " " + by.paired(on && word == "par", second)
}

// byChance is what comes of so many trees of up to most nodes, by chance.
func byChance(count, most int) [][]api.Node {
	by := chance(11)
	var l [][]api.Node
	for k := range count {
		grow := by.plain
		if k%3 == 1 {
			grow = by.paired
		}
		if x := settle.Settle(tree(grow(true, 5+by.below(most-10)))); len(x) > 1 {
			l = append(l, x)
		}
	}
	return l
}

func TestManyLongerTrees(t *testing.T) {
	active, free, doomed := 0, 0, 0
	for _, l := range slices.Concat(byChance(3000, 40), byChance(80, api.MaxRow-20)) {
		got := isAsRead(t, l)
		active += len(got.active)
		free += len(got.free)
		if got.doomed {
			doomed++
		}
	}
	if free < 1000 || active-free < 1000 || doomed < 300 {
		t.Errorf("only %d places that are free were tried, of %d, and %d trees that are doomed", free, active, doomed)
	}
}
