package doom_test

import (
	"slices"
	"testing"

	"redress/api"
	"redress/doom"
)

// rising is the numbers from one on, so many, each so far behind the last one.
func rising(from, count, by int) []int {
	var l []int
	for k := range count {
		l = append(l, from+k*by)
	}
	return l
}

func TestAsLongAsARowMayBe(t *testing.T) {
	for _, c := range []struct {
		words  string
		active []int
		doomed bool
		beside int // of the last one that is active
	}{
		{times("par", 99) + times(" a", 100), rising(99, 100, 1), false, 1},
		{times("par", 99) + times(" a", 99) + " !", rising(99, 99, 1), true, 2},
		{times("par", 99) + " !" + times(" a", 99), rising(100, 99, 1), true, 1},
		{times("par a", 99) + " a", append(rising(1, 98, 2), 197, 198), false, 99},
		{times("par a", 99) + " !", rising(1, 99, 2), true, 99},
		{times("seq", 99) + times(" a", 100), []int{99}, false, 0},
		{times("hand", 99) + times(" a", 100), []int{99}, false, 0},
		{times("seq", 98) + " par ! yield" + times(" a", 98), []int{100}, true, 1},
		{times("hand", 98) + " par ! yield" + times(" a", 98), []int{100}, false, 1},
		{times("alt", 99) + times(" a", 100), []int{0}, false, 0},
	} {
		l := tree(c.words)
		if got := doom.Active(l); !slices.Equal(got, c.active) {
			t.Errorf("P11.1: Active of %d nodes, %.20s.., = %v, want %v", len(l), c.words, got, c.active)
		}
		if got := doom.Doomed(l); got != c.doomed {
			t.Errorf("P11.2: Doomed of %d nodes, %.20s.., = %v", len(l), c.words, got)
		}
		last := c.active[len(c.active)-1]
		if got := doom.Beside(l, last); len(got) != c.beside || !doom.Free(l, last) {
			t.Errorf("P11.3: of %d nodes, %.20s.., at %d: %d beside, Free %v", len(l), c.words, last, len(got), doom.Free(l, last))
		}
		// With two more it is longer than any row may be.
		if longer := tree("par a " + c.words); len(longer) > api.MaxRow {
			isUntold(t, longer)
		}
	}
}

func TestAsDeepAsARowMayBe(t *testing.T) {
	// Each block is within another one, and beside what has thrown there.
	nest := func(deep int, inside string) string {
		return times("block par end-! c going", deep) + " " + inside + times(" b", deep)
	}
	for _, c := range []struct {
		words  string
		at     int
		free   bool
		beside int
	}{
		{nest(33, "yield"), 165, true, 1},
		{nest(32, "block pair a b"), 161, false, 0},
		{nest(32, "block par pair a b end-! c"), 162, true, 1},
		{nest(32, "block par pair a b end-? c"), 162, false, 1},
	} {
		l := tree(c.words)
		if got := doom.Free(l, c.at); got != c.free {
			t.Errorf("P11.3: Free of %d nodes, %d = %v", len(l), c.at, got)
		}
		if doom.Doomed(l) {
			t.Errorf("P11.2: a block of %d nodes is doomed", len(l))
		}
		if got := doom.Beside(l, c.at); len(got) != c.beside {
			t.Errorf("P11.3: of %d nodes stand %q beside %d", len(l), texts(got), c.at)
		}
	}
}

// Far longer and deeper than any row may be: that nothing is told of it is told quickly.
func TestLongRows(t *testing.T) {
	deep := 1 << 16
	for _, words := range []string{
		times("par", deep) + times(" a", deep+1), times("seq", deep) + " !" + times(" a", deep), times("par a", deep) + " !",
		times("block going", deep) + " a" + times(" b", deep), times("par", deep), times("!", deep), times("a", deep),
	} {
		l := tree(words)
		for _, at := range []int{-1, 0, deep, len(l) - 1, len(l)} {
			if got := doom.Beside(l, at); len(got) > 0 || doom.Free(l, at) {
				t.Errorf("P11.3: of a row of %d nodes, %.20s.., at %d: %d beside, Free %v", len(l), words, at, len(got), doom.Free(l, at))
			}
		}
		if got := doom.Active(l); len(got) > 0 || doom.Doomed(l) {
			t.Errorf("P11.1, P11.2: of a row of %d nodes, %.20s..: %d active, Doomed %v", len(l), words, len(got), doom.Doomed(l))
		}
	}
}
