package doom_test

import (
	"slices"
	"testing"

	"redress/api"
	"redress/doom"
	"redress/mean"
	"redress/row"
	"redress/sort"
)

// signs is the signs by which l may end, plain or paired.
func signs(t *testing.T, l []api.Node) []int {
	t.Helper()
	var ends []int
	if sort.On(l, false) {
		does, e := mean.Plain(l)
		if e != api.OK {
			t.Fatalf("the meaning of %s is not told: %d", text(l), e)
		}
		for _, x := range does {
			ends = append(ends, x.End)
		}
		return ends
	}
	pairs, e := mean.Paired(l)
	if e != api.OK {
		t.Fatalf("the meaning of %s is not told: %d", text(l), e)
	}
	for _, x := range pairs {
		ends = append(ends, x.P.End)
	}
	return ends
}

// endsWithBang holds that what is doomed does.
func endsWithBang(t *testing.T, l []api.Node) {
	t.Helper()
	for _, s := range signs(t, l) {
		if s != api.Bang {
			t.Fatalf("P11.4: %s is doomed, but may end with %d", text(l), s)
		}
	}
}

func TestWhatIsDoomedEndsWithBang(t *testing.T) {
	doomed := 0
	for _, words := range everyTree() {
		if l := tree(words); doom.Doomed(l) {
			doomed++
			endsWithBang(t, l)
		}
	}
	for _, l := range byChance(2000, 24) {
		// Many Acts side by side have more traces than a test has time for.
		if doom.Doomed(l) && mean.Small(l) && row.Count(l, api.Act) <= 4 {
			doomed++
			endsWithBang(t, l)
		}
	}
	if doomed < 1000 {
		t.Errorf("of only %d that are doomed the meaning was told", doomed)
	}
}

// What is doomed beside another one dooms both, and what is behind it too.
func TestDoomedSpreads(t *testing.T) {
	spreads := map[bool][]string{
		true:  {"par X end-? a", "par end-ok a X", "seq X pair a b", "stack X a"},
		false: {"par X a", "par ok X", "seq X a", "going X a"},
	}
	for _, words := range grown(5, []string{"a", "!", "?"}, ones, twos) {
		l := tree(words)
		if !doom.Doomed(l) {
			continue
		}
		for _, within := range spreads[sort.On(l, true)] {
			if x := put(within, l); len(doom.Active(x)) > 0 && !doom.Doomed(x) {
				t.Errorf("P11.2: %s is doomed, but %s is not", words, text(x))
			}
		}
		for _, within := range []string{"hand X a", "block X"} {
			if x := put(within, l); doom.Doomed(x) {
				t.Errorf("P11.2: %s is doomed, though a throw of %s does not end it", text(x), words)
			}
		}
	}
}

// put is the tree of these words with l at the X.
func put(words string, l []api.Node) []api.Node {
	var made []api.Node
	for _, n := range tree(words) {
		if n.Name == "X" {
			made = append(made, l...)
		} else {
			made = append(made, n)
		}
	}
	return made
}

// Only what is active is free; outside of blocks, all of it.
func TestFreeIsActive(t *testing.T) {
	for _, words := range everyTree() {
		l := tree(words)
		active := doom.Active(l)
		if !slices.IsSorted(active) {
			t.Fatalf("P11.1: Active(%s) = %v does not rise", words, active)
		}
		free := freeOf(l)
		for _, at := range free {
			if !slices.Contains(active, at) {
				t.Fatalf("P11.3: %s is Free at %d, where it is not active", words, at)
			}
		}
		if row.Count(l, api.Block) == 0 && !slices.Equal(free, active) {
			t.Fatalf("P11.3: %s has no block, but is Free at %v, not %v", words, free, active)
		}
	}
}
