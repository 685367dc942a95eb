package move_test

import (
	"cmp"
	"slices"
	"testing"

	"redress/api"
	"redress/doom"
	"redress/move"
	"redress/settle"
	"redress/sort"
)

// Two moves at an Alt, one at an Act, one or two elsewhere: none where nothing is active.
func TestHowManyThereAre(t *testing.T) {
	for _, l := range all() {
		at := map[int]int{}
		for _, m := range move.Enabled(l) {
			at[m.At]++
		}
		active := doom.Active(l)
		if len(at) != len(active) {
			t.Fatalf("P12.3: %s is active at %d places, but has moves at %d", text(l), len(active), len(at))
		}
		for _, k := range active {
			least, most := 1, 2
			switch l[k].Kind {
			case api.Alt:
				least = 2
			case api.Act:
				most = 1
			}
			if at[k] < least || at[k] > most {
				t.Fatalf("P12.3: %s has %d moves at %d", text(l), at[k], k)
			}
		}
	}
}

func TestMovesRise(t *testing.T) {
	for _, l := range all() {
		moves := move.Enabled(l)
		for k := range max(0, len(moves)-1) {
			a, b := moves[k], moves[k+1]
			if cmp.Or(cmp.Compare(a.At, b.At), cmp.Compare(a.How, b.How)) >= 0 {
				t.Fatalf("P12.1: of %s the move %v comes ahead of %v", text(l), a, b)
			}
		}
	}
}

func TestEachIsPicked(t *testing.T) {
	for _, l := range append(everyTree(), byChance(500, 5)...) {
		moves := move.Enabled(l)
		var got []api.Move
		for n := range moves {
			m, e := move.Pick(l, n)
			if e != api.OK || !move.Is(l, m) {
				t.Fatalf("P12.3: Pick(%s, %d) = %v, %d is not Enabled", text(l), n, m, e)
			}
			got = append(got, m)
		}
		if !slices.Equal(got, moves) {
			t.Fatalf("P12.3: of %s are picked %v, want %v", text(l), got, moves)
		}
	}
}

// What was begun as a term has a move, or has ended.
func TestWhatIsBegunHasAMove(t *testing.T) {
	for _, words := range grown(7, []string{"a", "throw", "yield"}, []string{"block"}, []string{"seq", "alt", "par", "hand", "pair"}) {
		l := tree(words)
		if !sort.Right(l) {
			continue
		}
		begun := settle.Begin(l)
		_, ended := settle.Ended(begun)
		if moves := move.Enabled(begun); ended != (len(moves) == 0) {
			t.Fatalf("P12.1: %s, begun, has ended: %v, and the moves %v", words, ended, moves)
		}
	}
}
