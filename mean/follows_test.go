package mean_test

import (
	"slices"
	"testing"

	"redress/api"
	"redress/mean"
	"redress/row"
	"redress/sign"
	"redress/sort"
	"redress/trace"
)

// ofSorts is the rows of those of these trees that are of one of the sorts.
func ofSorts(l []*tree, sorts ...int) [][]api.Node {
	var rows [][]api.Node
	for _, x := range l {
		if slices.Contains(sorts, sort.Of(x.l)) {
			rows = append(rows, x.l)
		}
	}
	return rows
}

// told is the text of all that a tree means.
func told(t *testing.T, l []api.Node) string {
	t.Helper()
	if sort.On(l, true) {
		got, e := mean.Paired(l)
		if e != api.OK {
			t.Fatalf("P7.3: Paired(%v): %d", l, e)
		}
		return pairTexts(got)
	}
	got, e := mean.Plain(l)
	if e != api.OK {
		t.Fatalf("P7.2: Plain(%v): %d", l, e)
	}
	return texts(got)
}

func meanTheSame(t *testing.T, x, y []api.Node) {
	t.Helper()
	if first, second := told(t, x), told(t, y); first != second {
		t.Errorf("P7.5: %v means %s, but %v means %s", x, first, y, second)
	}
}

// ends is how all that a tree does may end.
func ends(t *testing.T, l []api.Node) []int {
	t.Helper()
	var found []int
	if sort.On(l, true) {
		got, _ := mean.Paired(l)
		for _, x := range got {
			found = append(found, x.P.End)
			if !sign.Is(x.Q.End) {
				t.Errorf("P7.5: what takes back %v ends with %d", l, x.Q.End)
			}
		}
		return found
	}
	got, _ := mean.Plain(l)
	for _, p := range got {
		found = append(found, p.End)
	}
	return found
}

func TestAllEnds(t *testing.T) {
	for _, x := range grown(5, []api.Node{a, skip, throw, yield, overTick, overBang, overQuery}, ones) {
		found := ends(t, x.l)
		if slices.ContainsFunc(found, func(s int) bool { return !sign.Is(s) }) {
			t.Errorf("P7.5: %v ends with %v", x.l, found)
		}
		isTerm := row.Count(x.l, api.Over, api.Going, api.Stack, api.End) == 0
		if isTerm && !slices.Contains(found, api.Tick) && !slices.Contains(found, api.Bang) {
			t.Errorf("P7.5: %v is a term, and ends with %v alone", x.l, found)
		}
	}
}

func TestThreeInARow(t *testing.T) {
	plain := [][]api.Node{{a}, {skip}, {throw}, {yield}, {alt, b, throw}, {alt, yield, throw}, {par, a, b}, {seq, b, yield}, {hand, throw, c}, {block, pair, a, b}}
	paired := [][]api.Node{{pair, a, b}, {pair, throw, skip}, {pair, yield, c}, {pair, a, throw}, {pair, skip, yield}, {pair, alt, a, throw, b}, {pair, c, alt, b, throw}, {alt, pair, a, b, pair, throw, c}, {par, pair, a, b, pair, skip, c}, {seq, pair, b, a, pair, yield, throw}}
	for _, l := range [][][]api.Node{plain, paired} {
		for _, x := range l {
			for _, y := range l {
				for _, z := range l {
					if row.Count(slices.Concat(x, y, z), api.Act) <= api.MaxActs {
						meanTheSame(t, row.Make(seq, row.Make(seq, x, y), z), row.Make(seq, x, row.Make(seq, y, z)))
					}
				}
			}
		}
	}
	for _, x := range [][]api.Node{{overTick}, {overBang}, {overQuery}, {par, a, overTick}, {block, endQuery, a}} {
		meanTheSame(t, row.Make(seq, row.Make(seq, x, plain[4]), plain[5]), row.Make(seq, x, row.Make(seq, plain[4], plain[5])))
	}
	for _, x := range [][]api.Node{{endTick, yield}, {endBang, a}, {endQuery, throw}, {going, par, a, overTick, b}, {stack, going, a, throw, b}} {
		meanTheSame(t, row.Make(seq, row.Make(seq, x, paired[2]), paired[5]), row.Make(seq, x, row.Make(seq, paired[2], paired[5])))
	}
}

func TestEitherOrder(t *testing.T) {
	all := grown(4, []api.Node{a, b, throw, yield, overBang}, ones)
	terms, on := ofSorts(all, sort.Plain), ofSorts(all, sort.Plain, sort.PlainOn)
	paired, pairedOn := ofSorts(all, sort.Paired), ofSorts(all, sort.Paired, sort.PairedOn)
	for _, c := range []struct {
		n api.Node
		l [][]api.Node
	}{{alt, terms}, {par, on}, {alt, paired}, {par, pairedOn}} {
		for i, x := range c.l {
			for _, y := range c.l[i%7:] {
				meanTheSame(t, row.Make(c.n, x, y), row.Make(c.n, y, x))
			}
		}
	}
}

func TestBlockOfAPair(t *testing.T) {
	blocks, throwing := 0, 0
	for _, first := range ofSorts(grown(5, []api.Node{a, b, skip, throw, yield}, []api.Node{block}), sort.Plain) {
		does, _ := mean.Plain(first)
		want := slices.DeleteFunc(slices.Clone(does), func(p trace.Trace) bool { return p.End == api.Query })
		if slices.ContainsFunc(does, func(p trace.Trace) bool { return p.End == api.Bang }) {
			throwing++
			continue
		}
		for _, second := range [][]api.Node{{c}, {throw}, {yield}, {alt, c, skip}} {
			blocks++
			if got, e := mean.Plain(row.Make(block, row.Make(pair, first, second))); texts(got) != texts(want) || e != api.OK {
				t.Errorf("P7.5: a Block of a Pair of %v and %v does %s, %d, want %s", first, second, texts(got), e, texts(want))
			}
		}
	}
	if blocks < 1000 || throwing < 1000 {
		t.Errorf("only %d blocks were tried, and %d terms throw", blocks, throwing)
	}
}
