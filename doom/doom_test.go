package doom_test

import (
	"math"
	"slices"
	"testing"

	"redress/api"
	"redress/doom"
	"redress/settle"
)

// known is trees, and what is told of them: beside is asked for at the first place of active.
var known = []struct {
	words        string
	active, free []int
	doomed       bool
	beside       []string
}{
	{"a", []int{0}, []int{0}, false, nil},
	{"yield", []int{0}, []int{0}, false, nil},
	{"ok", nil, nil, false, nil},
	{"!", nil, nil, true, nil},
	{"?", nil, nil, false, nil},
	// The second one of a Seq and a Hand has not begun, nor has either one of an Alt and of a Pair.
	{"seq a b", []int{1}, []int{1}, false, nil},
	{"seq yield throw", []int{1}, []int{1}, false, nil},
	{"seq seq alt a b c d", []int{2}, []int{2}, false, nil},
	{"hand a b", []int{1}, []int{1}, false, nil},
	{"hand a throw", []int{1}, []int{1}, false, nil},
	{"alt a b", []int{0}, []int{0}, false, nil},
	{"alt throw throw", []int{0}, []int{0}, false, nil},
	{"alt par a b yield", []int{0}, []int{0}, false, nil},
	{"pair a b", []int{0}, []int{0}, false, nil},
	{"pair throw yield", []int{0}, []int{0}, false, nil},
	// Both of a Par go on.
	{"par a b", []int{1, 2}, []int{1, 2}, false, []string{"b"}},
	{"par ok b", []int{2}, []int{2}, false, []string{"ok"}},
	{"par a !", []int{1}, []int{1}, true, []string{"!"}},
	{"par ! a", []int{2}, []int{2}, true, []string{"!"}},
	{"par ? a", []int{2}, []int{2}, false, []string{"?"}},
	{"par par a yield seq alt b c d", []int{2, 3, 5}, []int{2, 3, 5}, false, []string{"yield", "seq alt b c d"}},
	{"par a par b par c d", []int{1, 3, 5, 6}, []int{1, 3, 5, 6}, false, []string{"par b par c d"}},
	{"par par par ! a b c", []int{4, 5, 6}, []int{4, 5, 6}, true, []string{"!", "b", "c"}},
	{"seq par ! a b", []int{3}, []int{3}, true, []string{"!"}},
	{"seq par ? a throw", []int{3}, []int{3}, false, []string{"?"}},
	{"hand par ! a throw", []int{3}, []int{3}, false, []string{"!"}},
	{"par hand par ! a b c", []int{4, 6}, []int{4, 6}, false, []string{"!", "c"}},
	{"par a hand par ! b throw", []int{1, 5}, []int{1, 5}, false, []string{"hand par ! b throw"}},
	// What is paired, outside of any block.
	{"going a b", []int{1}, []int{1}, false, nil},
	{"going par ! a b", []int{3}, []int{3}, true, []string{"!"}},
	{"going par ? a throw", []int{3}, []int{3}, false, []string{"?"}},
	{"stack pair a b c", []int{1}, []int{1}, false, nil},
	{"stack par pair a b end-! c d", []int{2}, []int{2}, true, []string{"end-! c"}},
	{"end-ok a", nil, nil, false, nil},
	{"end-! a", nil, nil, true, nil},
	{"end-! alt a yield", nil, nil, true, nil},
	{"end-? a", nil, nil, false, nil},
	{"seq pair a b pair c d", []int{1}, []int{1}, false, nil},
	{"seq par pair a b end-! c pair d e", []int{2}, []int{2}, true, []string{"end-! c"}},
	{"par end-! a pair b c", []int{3}, []int{3}, true, []string{"end-! a"}},
	{"par pair a b pair c d", []int{1, 4}, []int{1, 4}, false, []string{"pair c d"}},
	{"alt pair a b pair c d", []int{0}, []int{0}, false, nil},
	// In a block only what is beside what has thrown is free.
	{"block pair a b", []int{1}, nil, false, nil},
	{"block alt pair a b pair c d", []int{1}, nil, false, nil},
	{"block going a b", []int{2}, nil, false, nil},
	{"block going par ! a b", []int{4}, []int{4}, false, []string{"!"}},
	{"block going par ? a b", []int{4}, nil, false, []string{"?"}},
	{"block end-? a", nil, nil, false, nil},
	{"block par pair a b pair c d", []int{2, 5}, nil, false, []string{"pair c d"}},
	{"block par pair a b end-! skip", []int{2}, []int{2}, false, []string{"end-! skip"}},
	{"block par end-! a pair b c", []int{4}, []int{4}, false, []string{"end-! a"}},
	{"block par pair a b end-ok c", []int{2}, nil, false, []string{"end-ok c"}},
	{"block par pair a b end-? skip", []int{2}, nil, false, []string{"end-? skip"}},
	{"block par par pair a b pair c d end-! e", []int{3, 6}, []int{3, 6}, false, []string{"pair c d", "end-! e"}},
	{"block par par pair a b end-! c pair d e", []int{3, 8}, []int{3, 8}, false, []string{"end-! c", "pair d e"}},
	{"block par seq pair a b pair c d end-! e", []int{3}, []int{3}, false, []string{"end-! e"}},
	{"block seq par pair a b end-! c pair d e", []int{3}, []int{3}, false, []string{"end-! c"}},
	{"block stack par pair a b end-! c d", []int{3}, []int{3}, false, []string{"end-! c"}},
	{"block par stack pair a b c end-! d", []int{3}, []int{3}, false, []string{"end-! d"}},
	// What will throw is as good as what has thrown.
	{"block par going yield a stack par end-! b pair c d e", []int{3, 9}, []int{3, 9}, false, []string{"stack par end-! b pair c d e"}},
	{"block par going par ! a b pair c d", []int{5, 7}, []int{5, 7}, false, []string{"!", "pair c d"}},
	{"block par going hand par ! a b c pair d e", []int{6, 9}, []int{6}, false, []string{"!", "pair d e"}},
	// A Par outside of the innermost block is no help, nor is one within another block.
	{"par block pair a b c", []int{2, 5}, []int{5}, false, nil},
	{"par ! block pair a b", []int{3}, nil, true, nil},
	{"par block pair a b !", []int{2}, nil, true, nil},
	{"par block par pair a b pair c d !", []int{3, 6}, nil, true, []string{"pair c d"}},
	{"par a block par pair b c end-! d", []int{1, 4}, []int{1, 4}, false, []string{"block par pair b c end-! d"}},
	{"block par end-! a going block pair b c d", []int{6}, nil, false, nil},
	{"block par end-! a going yield b", []int{5}, []int{5}, false, []string{"end-! a"}},
	{"block par going block par pair a b end-! c d pair e f", []int{5, 11}, []int{5}, false, []string{"end-! c"}},
	{"block going par block pair a b ! c", []int{4}, nil, false, nil},
	{"seq block pair a b throw", []int{2}, nil, false, nil},
	{"hand block par pair a b end-! c d", []int{3}, []int{3}, false, []string{"end-! c"}},
}

// freeOf is all places of l, and some beside it, that are Free.
func freeOf(l []api.Node) []int {
	var free []int
	for _, at := range append(noPlaces(l), places(l)...) {
		if doom.Free(l, at) {
			free = append(free, at)
		}
	}
	return free
}

// places is all that l has.
func places(l []api.Node) []int {
	var all []int
	for at := range l {
		all = append(all, at)
	}
	return all
}

// noPlaces is some that l has not.
func noPlaces(l []api.Node) []int {
	return []int{math.MinInt, -len(l) - 1, -2, -1, len(l), len(l) + 1, 2*len(l) + 1, math.MaxInt}
}

// texts is these rows as words.
func texts(rows [][]api.Node) []string {
	var l []string
	for _, row := range rows {
		l = append(l, text(row))
	}
	return l
}

func TestKnownTrees(t *testing.T) {
	for _, c := range known {
		l := tree(c.words)
		if !settle.Settled(l) {
			t.Errorf("%s is not settled", c.words)
		}
		if got := doom.Active(l); !slices.Equal(got, c.active) {
			t.Errorf("P11.1: Active(%s) = %v, want %v", c.words, got, c.active)
		}
		if got := doom.Doomed(l); got != c.doomed {
			t.Errorf("P11.2: Doomed(%s) = %v", c.words, got)
		}
		if got := freeOf(l); !slices.Equal(got, c.free) {
			t.Errorf("P11.3: of %s the places %v are Free, want %v", c.words, got, c.free)
		}
		if len(c.active) == 0 {
			continue
		}
		if got := texts(doom.Beside(l, c.active[0])); !slices.Equal(got, c.beside) {
			t.Errorf("P11.3: Beside(%s, %d) = %v, want %v", c.words, c.active[0], got, c.beside)
		}
	}
}

func TestBesideFromTheInnermostOneOutward(t *testing.T) {
	words := "par seq block par par pair a b going par c par yield hand d e f pair g h i j"
	l := tree(words)
	if !settle.Settled(l) {
		t.Fatalf("%s is not settled", words)
	}
	for at, want := range map[int][]string{
		5:  {"going par c par yield hand d e f", "pair g h"},
		10: {"par yield hand d e", "pair a b", "pair g h"},
		12: {"hand d e", "c", "pair a b", "pair g h"},
		14: {"yield", "c", "pair a b", "pair g h"},
		17: {"par pair a b going par c par yield hand d e f"},
		21: {"seq block par par pair a b going par c par yield hand d e f pair g h i"},
	} {
		if got := texts(doom.Beside(l, at)); !slices.Equal(got, want) {
			t.Errorf("P11.3: Beside(%s, %d) = %q, want %q", words, at, got, want)
		}
	}
	if got, want := doom.Active(l), []int{5, 10, 12, 14, 17, 21}; !slices.Equal(got, want) {
		t.Errorf("P11.1: Active(%s) = %v, want %v", words, got, want)
	}
}

// Places at which nothing goes on, or nothing that waits, have none beside them, and are not free.
func TestWhatIsNotActive(t *testing.T) {
	for _, c := range known {
		l := tree(c.words)
		for _, at := range append(noPlaces(l), places(l)...) {
			if slices.Contains(c.active, at) {
				continue
			}
			if got := doom.Beside(l, at); len(got) > 0 || doom.Free(l, at) {
				t.Errorf("P11.3: of %s at %d: Beside %q, Free %v", c.words, at, texts(got), doom.Free(l, at))
			}
		}
	}
}

// unsettled is rows of which something else comes, or nothing.
var unsettled = []string{
	"skip", "throw", "seq skip a", "seq ! a", "seq ? a", "seq throw a", "hand throw a", "hand ? a", "par skip a", "par throw a", "par a throw", "par ! !", "par ok !", "par ? !",
	"block end-! a", "block end-ok a", "going ! a", "going throw a", "going ? a", "seq end-! a pair b c", "seq end-ok a pair b c", "par end-! a end-! b", "stack end-! a b", "seq seq a b seq throw a skip skip",
	"block par pair a b going throw c", "par a seq throw b", "par ! seq skip a", "stack end-ok a b",
	// These are no trees that go on.
	"", "a b", "seq a", "par a", "! !", "! a", "par ! a b", "end-!", "end-! !", "end-! end-! a", "seq a !", "alt ! !", "pair ! a", "pair a !", "going a !", "stack pair a b !", "block a", "block !", "par a pair b c",
	"par ! pair a b", "stack a b", "hand pair a b pair c d", "going pair a b c", "stack ! a", "seq !", "par end-! a b",
}

func TestWhatIsNotSettled(t *testing.T) {
	for _, words := range unsettled {
		isUntold(t, tree(words))
	}
	for _, l := range [][]api.Node{
		nil, {}, {{}}, {{Kind: -1}}, {{Kind: api.End + 1}}, {{Kind: api.Act}}, {{Kind: api.Act, Name: "skip"}}, {{Kind: api.Act, Name: "toolongaa"}}, {{Kind: api.Act, Name: "A"}},
		{{Kind: api.Act, Name: "a", Sign: api.Tick}}, {{Kind: api.Yield, Name: "a"}}, {{Kind: api.Yield, Sign: api.Bang}},
		{{Kind: api.Over, Sign: api.Bang, Name: "a"}}, {{Kind: api.Over}}, {{Kind: api.Over, Sign: api.Query + 1}}, {{Kind: api.Act, Sign: api.Bang}},
		{{Kind: api.End, Sign: api.Bang}, {Kind: api.Act}}, {{Kind: api.End, Sign: api.Bang, Name: "a"}, {Kind: api.Skip}},
		{{Kind: api.Par, Sign: api.Bang}, {Kind: api.Over, Sign: api.Bang}, {Kind: api.Yield}}, {{Kind: api.Par}, {Kind: api.Over, Sign: api.Bang}, {Kind: api.Act}},
		{{Kind: api.Alt}, {Kind: api.Act, Name: "a"}, {Kind: 99}},
	} {
		isUntold(t, l)
	}
}

// isUntold holds that of l, which is not settled, nothing is told.
func isUntold(t *testing.T, l []api.Node) {
	t.Helper()
	if settle.Settled(l) {
		t.Errorf("%v is settled", l)
	}
	if got := doom.Active(l); len(got) > 0 {
		t.Errorf("P11.1: Active(%v) = %v", l, got)
	}
	if doom.Doomed(l) {
		t.Errorf("P11.2: Doomed(%v)", l)
	}
	for _, at := range append(noPlaces(l), places(l)...) {
		if got := doom.Beside(l, at); len(got) > 0 || doom.Free(l, at) {
			t.Errorf("P11.3: of %v at %d: Beside %q, Free %v", l, at, texts(got), doom.Free(l, at))
		}
	}
}

// The chapter's own examples.
func TestExamples(t *testing.T) {
	if l := tree("block par pair a b end-! skip"); !doom.Free(l, 2) {
		t.Error("P11.3: a Pair beside what has thrown is not Free")
	}
	if l := tree("block par pair a b pair c d"); doom.Free(l, 2) {
		t.Error("P11.3: a Pair beside a Pair is Free")
	}
}
