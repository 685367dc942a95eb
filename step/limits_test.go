package step_test

import (
	"math"
	"slices"
	"strings"
	"testing"

	"redress/api"
	"redress/step"
)

// As long as a row may be, and, with two nodes more, longer.
func TestAsLongAsARowMayBe(t *testing.T) {
	for _, c := range []struct{ words, move, comes, act string }{
		{times("par", 99) + times(" a", 100), "do 99", times("par", 99) + " ok" + times(" a", 99), "a"},
		{times("par", 99) + times(" a", 99) + " b", "do 198", times("par", 99) + times(" a", 99) + " ok", "b"},
		{times("par yield", 99) + " !", "stop 1", "par ? " + times("par yield", 98) + " !", ""},
		{times("par yield", 99) + " !", "go 197", times("par yield", 98) + " !", ""},
		{times("seq", 99) + " yield" + times(" b", 99), "stop 99", "?", ""},
		{times("seq", 99) + " a" + times(" b", 99), "do 99", times("seq", 98) + " b" + times(" b", 98), "a"},
		{times("seq", 98) + " alt throw skip" + times(" b", 98), "left 98", "!", ""},
		{times("hand", 98) + " alt throw skip" + times(" b", 98), "right 98", "ok", ""},
		{times("alt", 99) + times(" b", 100), "left 0", times("alt", 98) + times(" b", 99), ""},
		{times("alt b", 99) + " c", "right 0", times("alt b", 98) + " c", ""},
		{times("block going", 66) + " a" + times(" b", 66), "do 132", "ok", "a"},
		{"block pair " + times("seq a", 98) + " b b", "go 1", "block going " + times("seq a", 98) + " b b", ""},
		{"block " + times("par", 49) + " end-! c" + times(" pair a b", 49), "stop 52", "block " + times("par", 48) + " end-! par c skip" + times(" pair a b", 48), ""},
		{"block " + times("par", 49) + " end-! c" + times(" pair a b", 49), "go 196", "block " + times("par", 49) + " end-! c" + times(" pair a b", 48) + " going a b", ""},
	} {
		l := tree(c.words)
		if len(l) < api.MaxRow-3 || len(l) > api.MaxRow {
			t.Fatalf("%.20s.. has %d nodes", c.words, len(l))
		}
		isNext(t, l, madeOf(t, c.move), tree(c.comes), c.act)
		longer := tree(c.words)
		for len(longer) <= api.MaxRow {
			longer = slices.Concat(tree("par yield"), longer)
		}
		m := madeOf(t, c.move)
		m.At += len(longer) - len(l)
		isNoMove(t, longer, m)
		isNoMove(t, longer, api.Move{At: 1, How: api.Go})
	}
}

// A row that is as long as it may be is played out, from either side.
func TestALongRowIsPlayedOut(t *testing.T) {
	first := func(l []api.Node, n api.Node) int { return slices.Index(l, n) }
	last := func(l []api.Node, n api.Node) int {
		l = slices.Clone(l)
		slices.Reverse(l)
		return len(l) - 1 - slices.Index(l, n)
	}
	for _, next := range []func([]api.Node, api.Node) int{first, last} {
		l := tree(times("par", 99) + times(" a", 100))
		for k := range 100 {
			m := api.Move{At: next(l, api.Node{Kind: api.Act, Name: "a"}), How: api.Do}
			var act string
			var e api.Errno
			if l, act, e = step.Next(l, m); act != "a" || e != api.OK {
				t.Fatalf("P13.2: the action of the number %d, at %d, is %q, %d", k, m.At, act, e)
			}
		}
		if text(l) != "ok" {
			t.Errorf("P13.2: of a row of 100 actions that were done comes %s", text(l))
		}
	}
}

// Far longer and deeper than any row may be: that nothing may be done is told quickly, and Put is quick.
func TestLongRows(t *testing.T) {
	deep := 1 << 16
	for _, words := range []string{
		times("par", deep) + times(" yield", deep+1), times("seq", deep) + times(" a", deep+1), times("par a", deep) + " !",
		times("block going", deep) + " a" + times(" b", deep), times("alt", deep), times("yield", deep), times("pair", deep) + " a",
	} {
		l := tree(words)
		for _, at := range []int{math.MinInt, -1, 0, 1, deep, deep + 1, len(l) - 1, len(l), math.MaxInt} {
			for how := range api.Stop + 2 {
				isNoMove(t, l, api.Move{At: at, How: how})
			}
		}
	}
}

func TestPutInLongRows(t *testing.T) {
	deep := 1 << 16
	par := times("par", deep) + times(" a", deep+1)
	for _, c := range []struct {
		words string
		at    int
		want  string
	}{
		{par, 0, "X"},
		{par, 1, "par X a"},
		{par, deep, times("par", deep) + " X" + times(" a", deep)},
		{par, 2 * deep, times("par", deep) + times(" a", deep) + " X"},
		{par, 2*deep + 1, par},
		{times("a", deep), deep - 1, times("a", deep-1) + " X"},
		{times("seq", deep), 0, times("seq", deep)},
		{times("block", deep) + " a", deep / 2, times("block", deep/2) + " X"},
	} {
		for _, put := range []string{"", "b", times("seq b", 300)} {
			want := strings.Fields(strings.ReplaceAll(c.want, "X", put))
			if got := step.Put(tree(c.words), c.at, tree(put)); !slices.Equal(got, tree(strings.Join(want, " "))) {
				t.Errorf("P13.1: Put(%.20s.., %d, %.20s) has %d nodes, want %d", c.words, c.at, put, len(got), len(want))
			}
		}
	}
}
