package mean_test

import (
	"math"
	"slices"
	"testing"

	"redress/api"
	"redress/mean"
	"redress/row"
	"redress/sort"
)

// isRefused holds a row against an error of each of the three calls: of Plain, and of Paired and Back.
func isRefused(t *testing.T, l []api.Node, plain, paired api.Errno) {
	t.Helper()
	if got, e := mean.Plain(l); e != plain || e != api.OK && len(got) != 0 {
		t.Errorf("P7.1: Plain of %d nodes, %v .. = %s, %d, want %d", len(l), l[:min(len(l), 8)], texts(got), e, plain)
	}
	if got, e := mean.Paired(l); e != paired || e != api.OK && len(got) != 0 {
		t.Errorf("P7.1: Paired of %d nodes, %v .. = %s, %d, want %d", len(l), l[:min(len(l), 8)], pairTexts(got), e, paired)
	}
	if got, e := mean.Back(l); e != paired || e != api.OK && len(got) != 0 {
		t.Errorf("P7.1: Back of %d nodes, %v .. = %s, %d, want %d", len(l), l[:min(len(l), 8)], texts(got), e, paired)
	}
}

// bush is a plain tree of so many nodes, 1 or 3 or more, of which so many are Acts, as far as there are nodes for that.
func bush(long, acts int) []api.Node {
	l := []api.Node{block, pair, skip, skip}
	if long%2 == 1 {
		l = []api.Node{skip}
	}
	for len(l) < long {
		l = row.Make(alt, l, []api.Node{skip})
	}
	for k, n := range l {
		if n == skip && acts > 0 {
			l[k] = a
			acts--
		}
	}
	return l
}

// pairs is a paired tree of so many nodes, 3 or 5 or more, of which so many are Acts, as far as there are nodes for that.
func pairs(long, acts int) []api.Node {
	return row.Make(pair, bush(long-2, acts), []api.Node{skip})
}

func TestSmall(t *testing.T) {
	for long := range 31 {
		for acts := range min(long, 10) + 1 {
			l := append(slices.Repeat([]api.Node{a}, acts), slices.Repeat([]api.Node{throw}, long-acts)...)
			if got := mean.Small(l); got != (long <= 24 && acts <= 6) {
				t.Errorf("P7.1: Small of %d nodes, %d Acts = %v", long, acts, got)
			}
			slices.Reverse(l)
			if got := mean.Small(l); got != (long <= 24 && acts <= 6) {
				t.Errorf("P7.1: Small of %d nodes, the last %d Acts = %v", long, acts, got)
			}
		}
	}
	// It looks at how many there are, whatever they are, and at each Act anew.
	if !mean.Small(nil) || !mean.Small([]api.Node{}) || !mean.Small([]api.Node{{}, {Kind: -1}, {Kind: math.MaxInt}, {Kind: api.Seq}}) {
		t.Error("P7.1: a short row is not Small")
	}
	wrong := []api.Node{{Kind: api.Act}, {Kind: api.Act, Name: "A"}, {Kind: api.Act, Name: "skip"}, {Kind: api.Act, Sign: 4}, a, a}
	if !mean.Small(wrong) || mean.Small(append(wrong, a)) {
		t.Error("P7.1: an Act is not counted, or counted twice")
	}
	named := []api.Node{{Name: "a"}, {Kind: api.Skip, Name: "a"}, {Kind: api.Throw, Name: "a"}}
	if !mean.Small(slices.Repeat(named, 8)) || mean.Small(slices.Repeat(named, 9)) {
		t.Error("P7.1: what has a name, and is no Act, is counted as one")
	}
	if mean.Small(make([]api.Node, 1<<20)) {
		t.Error("P7.1: a long row is Small")
	}
}

func TestAsLongAsMeaningIsTold(t *testing.T) {
	for long := 5; long <= api.MaxSmall+6; long++ {
		for acts := range api.MaxActs + 4 {
			l, p := bush(long, acts), pairs(long+2, acts)
			if len(l) != long || !sort.On(l, false) || !sort.On(p, true) {
				t.Fatalf("a bush of %d nodes has %d, or is no bush", long, len(l))
			}
			want, wantPaired := api.OK, api.OK
			if long > 24 || row.Count(l, api.Act) > 6 {
				want = api.ErrMeanBig
			}
			if long+2 > 24 || row.Count(p, api.Act) > 6 {
				wantPaired = api.ErrMeanBig
			}
			isRefused(t, l, want, api.ErrArg)
			isRefused(t, p, api.ErrArg, wantPaired)
		}
	}
	// What only goes on is as long as it is, too.
	for long := 20; long <= 30; long++ {
		l := row.Make(stack, pairs(long-2, 0), []api.Node{skip})
		on := row.Make(seq, []api.Node{overTick}, bush(long-2, 0))
		want := api.OK
		if long > 24 {
			want = api.ErrMeanBig
		}
		isRefused(t, l, api.ErrArg, want)
		isRefused(t, on, want, api.ErrArg)
	}
}

// Of several errors the first one: what is no tree of that kind is ErrArg, however long.
func TestErrorsInOrder(t *testing.T) {
	for long := api.MaxRow - 3; long <= api.MaxRow+5; long++ {
		want := api.ErrMeanBig
		if long > api.MaxRow {
			want = api.ErrArg
		}
		isRefused(t, bush(long, 0), want, api.ErrArg)
		isRefused(t, pairs(long, 0), api.ErrArg, want)
	}
	isRefused(t, slices.Repeat([]api.Node{a}, 7), api.ErrArg, api.ErrArg)
	isRefused(t, slices.Repeat([]api.Node{skip}, 25), api.ErrArg, api.ErrArg)
}

func TestWhatHasNoMeaning(t *testing.T) {
	for _, l := range [][]api.Node{
		nil, {}, {seq}, {seq, a}, {a, a}, {seq, a, b, c}, {block}, {block, a}, {block, overTick}, {pair, a}, {alt, a, pair, a, b}, {alt, overTick, a}, {alt, a, overTick}, {seq, a, overTick}, {hand, a, overTick}, {hand, pair, a, b, pair, a, b}, {pair, overTick, a}, {pair, a, overTick},
		{endTick}, {endTick, overTick}, {endTick, pair, a, b}, {going, a, overTick}, {going, pair, a, b, a}, {stack, a, b}, {stack, pair, a, b, pair, a, b}, {seq, pair, a, b, going, a, b}, {alt, going, a, b, pair, a, b}, {block, pair, pair, a, b, c},
		{{}}, {{Kind: -1}}, {{Kind: 15}}, {{Kind: math.MinInt}}, {{Kind: math.MaxInt}}, {{Kind: api.Act}}, {{Kind: api.Act, Name: "A"}}, {{Kind: api.Act, Name: "abcdefghi"}}, {{Kind: api.Act, Name: "yieldd"}}, {{Kind: api.Act, Name: "a", Sign: api.Tick}},
		{{Kind: api.Over}}, {{Kind: api.Over, Sign: 4}}, {{Kind: api.Over, Sign: -1}}, {{Kind: api.Over, Sign: math.MinInt}}, {{Kind: api.Skip, Name: "a"}}, {{Kind: api.Yield, Sign: api.Query}}, {{Kind: api.End}, a}, {{Kind: api.End, Sign: 4}, a}, {{Kind: api.Seq, Name: "a"}, a, b}, {{Kind: api.Pair, Sign: 1}, a, b},
		slices.Repeat([]api.Node{seq}, 1<<18), append(slices.Repeat([]api.Node{block}, 1<<18), pair, a, b), make([]api.Node, 1<<18), append(slices.Repeat([]api.Node{par, a}, 1<<18), a),
	} {
		isRefused(t, l, api.ErrArg, api.ErrArg)
	}
	for _, l := range [][]api.Node{{a}, {overQuery}, {block, pair, a, b}, {block, going, a, b}, {par, overBang, overTick}} {
		isRefused(t, l, api.OK, api.ErrArg)
	}
	for _, l := range [][]api.Node{{pair, a, b}, {going, a, b}, {endQuery, a}, {stack, endTick, a, b}, {par, pair, a, b, going, c, d}} {
		isRefused(t, l, api.ErrArg, api.OK)
	}
}
