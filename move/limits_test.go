package move_test

import (
	"math"
	"slices"
	"testing"

	"redress/api"
	"redress/move"
)

// inTurn is one move for each of these ways at each place, from one on, each so far behind the last one.
func inTurn(from, count, by int, hows ...int) []api.Move {
	var l []api.Move
	for k := range count {
		for _, how := range hows {
			l = append(l, api.Move{At: from + k*by, How: how})
		}
	}
	return l
}

// As long as a row may be, and, with two nodes more, longer.
func TestAsLongAsARowMayBe(t *testing.T) {
	for _, c := range []struct {
		words string
		want  []api.Move
	}{
		{times("par", 99) + times(" a", 100), inTurn(99, 100, 1, api.Do)},
		{times("par", 99) + times(" yield", 100), inTurn(99, 100, 1, api.Go, api.Stop)},
		{times("par yield", 99) + " !", inTurn(1, 99, 2, api.Go, api.Stop)},
		{times("seq", 99) + times(" yield", 100), inTurn(99, 1, 1, api.Go, api.Stop)},
		{times("alt", 99) + times(" yield", 100), inTurn(0, 1, 1, api.Left, api.Right)},
		{times("par", 49) + times(" alt a b", 50), inTurn(49, 50, 3, api.Left, api.Right)},
		{"block " + times("par", 49) + times(" pair a b", 50), inTurn(50, 50, 3, api.Go)},
		{"block " + times("par", 49) + " end-! c" + times(" pair a b", 49), inTurn(52, 49, 3, api.Go, api.Stop)},
		{"block " + times("par", 49) + " end-ok c" + times(" pair a b", 49), inTurn(52, 49, 3, api.Go)},
	} {
		l := tree(c.words)
		if len(l) > api.MaxRow {
			t.Fatalf("%.20s.. has %d nodes", c.words, len(l))
		}
		hasMany(t, l, c.want)
		if longer := tree("par yield " + c.words); len(longer) > api.MaxRow {
			hasNone(t, longer)
		}
	}
}

// hasMany holds what is told of l against these moves: of a long row not all that may be asked is.
func hasMany(t *testing.T, l []api.Node, want []api.Move) {
	t.Helper()
	if got := move.Enabled(l); !slices.Equal(got, want) {
		t.Errorf("P12.1: Enabled of %d nodes, %.40s.. = %v, want %v", len(l), text(l), got, want)
	}
	last := want[len(want)-1].At
	for _, m := range inTurn(last-1, 3, 1, 0, api.Do, api.Left, api.Right, api.Go, api.Stop, api.Stop+1) {
		if got := move.Is(l, m); got != slices.Contains(want, m) {
			t.Errorf("P12.1: Is of %d nodes, %.40s.., %v = %v", len(l), text(l), m, got)
		}
	}
	many := len(want)
	for _, n := range []int{math.MinInt, -many - 1, -many, -1, 0, many - 1, many, math.MaxInt} {
		if got, e := move.Pick(l, n); got != want[picked(n, many)] || e != api.OK {
			t.Errorf("P12.2: Pick of %d nodes, %.40s.., %d = %v, %d, want %v", len(l), text(l), n, got, e, want[picked(n, many)])
		}
	}
}

// hasNone holds that of l there are no moves, quickly.
func hasNone(t *testing.T, l []api.Node) {
	t.Helper()
	if got := move.Enabled(l); len(got) > 0 {
		t.Errorf("P12.1: a row of %d nodes has %d moves", len(l), len(got))
	}
	for _, at := range []int{-1, 0, len(l) / 2, len(l) - 1, len(l)} {
		for how := range api.Stop + 2 {
			if move.Is(l, api.Move{At: at, How: how}) {
				t.Errorf("P12.1: of a row of %d nodes %d at %d is a move", len(l), how, at)
			}
		}
		if m, e := move.Pick(l, at); m != (api.Move{}) || e != api.ErrMoveNone {
			t.Errorf("P12.2: of a row of %d nodes %d picks %v, %d", len(l), at, m, e)
		}
	}
}

// Far longer and deeper than any row may be: that nothing may be done is told quickly.
func TestLongRows(t *testing.T) {
	deep := 1 << 16
	for _, words := range []string{
		times("par", deep) + times(" yield", deep+1), times("seq", deep) + times(" a", deep+1), times("par a", deep) + " !",
		times("block going", deep) + " a" + times(" b", deep), times("alt", deep), times("yield", deep), times("pair", deep) + " a",
	} {
		hasNone(t, tree(words))
	}
}
