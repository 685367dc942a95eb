package cost_test

import (
	"testing"

	"redress/api"
	"redress/cost"
)

// As long as a tree may be, or nearly so.
func TestAsLongAsATreeMayBe(t *testing.T) {
	for _, c := range []struct {
		words           string
		of, most, least int
	}{
		{times("seq a", 99) + " b", 100, 100, 100},
		{times("seq", 99) + times(" a", 100), 100, 100, 100},
		{times("alt a", 99) + " b", 199, 100, 2},
		{times("alt", 99) + times(" a", 100), 199, 100, 2},
		{times("alt skip", 99) + " b", 100, 100, 1},
		{times("hand alt a skip", 49) + " alt a skip", 100, 100, 50},
		{"block " + times("par pair a b", 49) + " pair a b", 150, 150, 150},
		{times("block going", 66) + " a" + times(" b", 66), 67, 67, 67},
		{times("stack", 49) + " end-ok a" + times(" seq b c", 49), 99, 99, 99},
		{times("par end-! a", 66) + " end-? b", 67, 67, 67},
	} {
		l := tree(c.words)
		if len(l) < api.MaxRow-2 || len(l) > api.MaxRow {
			t.Fatalf("%.20s.. has %d nodes", c.words, len(l))
		}
		costs(t, l, c.of, c.most, c.least)
		for _, crashes := range []int{0, 1, 1 << 20} {
			crashed(t, l, crashes, (c.of+1)*(crashes+1))
		}
	}
}

// As long as a tree may be, and longer: of the latter nodes are counted, but nothing is done from it on.
func TestLongerThanATreeMayBe(t *testing.T) {
	for _, c := range []struct {
		node, last string
		own, of    int
	}{
		{"seq a", "b", 1, 1}, {"par a", "block end-ok b", 1, 1}, {"alt a", "b", 2, 1}, {"alt a", "block pair skip b", 2, 2}, {"hand alt skip b", "yield", 2, 1}, {"par pair a b", "end-! a", 3, 1}, {"par yield", "seq ok a", 1, 1},
	} {
		short, long := 0, 0
		for many := range api.MaxRow {
			l := tree(times(c.node, many) + " " + c.last)
			if len(l) <= api.MaxRow {
				short++
				if most, least := costsAsTold(t, l); most == 0 || least == 0 {
					t.Fatalf("P15.1: from %.30s.., of %d nodes, nothing is done on", text(l), len(l))
				}
				continue
			}
			long++
			costs(t, l, many*c.own+c.of, 0, 0)
			crashed(t, l, 0, 0)
			crashed(t, l, 1, 0)
		}
		if short < 40 || long < 40 {
			t.Errorf("of %s, %d rows were short enough, and %d too long", c.node, short, long)
		}
	}
}

// Crashed goes by how long the row is, whether it is a tree or not.
func TestCrashedOfLongRows(t *testing.T) {
	for long := range api.MaxRow + 20 {
		for word, of := range map[string]int{"yield": long, "skip": 0, "seq": 0, "alt": long} {
			l := tree(times(word, long))
			want := 3*of + 3
			if long > api.MaxRow {
				want = 0
			}
			crashed(t, l, 2, want)
			crashed(t, l, -1, 0)
			crashed(t, l, 1<<20+1, 0)
		}
	}
	crashed(t, tree(times("a", api.MaxRow)), 1<<20, 201*(1<<20+1))
	crashed(t, tree(times("a", api.MaxRow+1)), 1<<20, 0)
	crashed(t, make([]api.Node, api.MaxRow), 4, 5)
	crashed(t, make([]api.Node, api.MaxRow+1), 4, 0)
}

// Far longer and deeper than any tree: Of counts it, and the others tell quickly that there is nothing to be done.
func TestFarTooLongRows(t *testing.T) {
	deep := 1 << 16
	for words, of := range map[string]int{
		times("alt", deep) + times(" a", deep+1): 2*deep + 1, times("seq a", deep) + " b": deep + 1, times("seq", deep): 0, times("pair", deep) + " a": deep + 1,
		times("block", deep) + " pair a b": 3, times("end-ok", deep) + " yield": 1, times("yield", deep): deep, times("alt skip", deep) + " skip": deep,
	} {
		l := tree(words)
		costs(t, l, of, 0, 0)
		crashed(t, l, 0, 0)
	}
	if got := cost.Of(make([]api.Node, 1<<22)); got != 0 {
		t.Errorf("P15.1: Of a row of nodes that are none = %d", got)
	}
}
