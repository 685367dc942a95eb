package runs_test

import (
	"slices"
	"strings"
	"testing"

	"redress/api"
	"redress/mean"
	"redress/parse"
	"redress/row"
	"redress/runs"
	"redress/settle"
	"redress/trace"
)

// chained is so many of these trees side by side, in brackets from the left, or from the right.
func chained(many int, leaf []api.Node, right bool) []api.Node {
	l := leaf
	for range many - 1 {
		if right {
			l = row.Make(par, leaf, l)
		} else {
			l = row.Make(par, l, leaf)
		}
	}
	return l
}

// Just as long, and with just as many actions, as meaning is told of; then longer, and with more.
func TestAsLongAsIsTold(t *testing.T) {
	for _, c := range []struct {
		l    []api.Node
		want api.Errno
	}{
		{chained(12, []api.Node{yield}, false), api.OK},
		{chained(13, []api.Node{yield}, false), api.ErrMeanBig},
		{row.Make(block, row.Make(pair, chained(11, []api.Node{yield}, false), []api.Node{skip})), api.OK},
		{row.Make(block, row.Make(pair, chained(11, []api.Node{yield}, false), []api.Node{block, pair, a, b})), api.ErrMeanBig},
		{row.Make(alt, chained(11, []api.Node{yield}, true), []api.Node{block, pair, skip, skip}), api.ErrMeanBig},
		{chained(6, []api.Node{a}, false), api.OK},
		{chained(7, []api.Node{a}, false), api.ErrMeanBig},
		{row.Make(seq, chained(6, []api.Node{a}, false), []api.Node{b}), api.ErrMeanBig},
		{row.Make(alt, []api.Node{a}, chained(6, []api.Node{b}, true)), api.ErrMeanBig},
		{chained(100, []api.Node{yield}, true), api.ErrMeanBig},
		{slices.Concat([]api.Node{par}, chained(99, []api.Node{yield}, true), []api.Node{overOK}), api.ErrMeanBig},
		{chained(101, []api.Node{yield}, true), api.ErrArg},
	} {
		if _, e := runs.All(c.l); e != c.want {
			t.Errorf("P14.2: All of %d nodes, %d of them Acts: %d, want %d", len(c.l), row.Count(c.l, api.Act), e, c.want)
		}
		if c.want != api.OK {
			isNotTold(t, c.l, c.want)
		}
		if _, e := mean.Plain(c.l); e != c.want {
			t.Fatalf("P7.1: of %d nodes the meaning is told as %d", len(c.l), e)
		}
	}
	all := row.Make(block, row.Make(pair, chained(11, []api.Node{yield}, false), []api.Node{skip}))
	if len(all) != api.MaxSmall {
		t.Errorf("the row that is as long as is told has %d nodes", len(all))
	}
}

// What is no tree that goes on plain, or is not settled, is told ahead of what is too long.
func TestErrorsInOrder(t *testing.T) {
	yields, acts := chained(13, []api.Node{yield}, false), chained(7, []api.Node{a}, false)
	for _, big := range [][]api.Node{yields, acts} {
		isNotTold(t, big, api.ErrMeanBig)
		isNotTold(t, row.Make(pair, big, []api.Node{skip}), api.ErrArg)
		isNotTold(t, row.Make(par, big, []api.Node{skip}), api.ErrArg)
		isNotTold(t, row.Make(seq, []api.Node{overOK}, big), api.ErrArg)
		isNotTold(t, row.Make(seq, big, []api.Node{overOK}), api.ErrArg)
		isNotTold(t, big[1:], api.ErrArg)
		isNotTold(t, append(slices.Clone(big), a), api.ErrArg)
		isNotTold(t, big[:len(big)-1], api.ErrArg)
		wrong := slices.Clone(big)
		wrong[len(wrong)-1].Sign = api.Tick
		isNotTold(t, wrong, api.ErrArg)
	}
	for _, l := range [][]api.Node{nil, {}, {skip}, {throw}, {endOK, a}, {pair, a, b}, {{}}, {{Kind: 15}}, {{Kind: -1}}, {{Kind: api.Over}}, {{Kind: api.Act}}, {{Kind: api.Act, Name: "longnames"}}, {seq}, {seq, a}, {a, a}, {block, a}, {block, endOK, a}, {block, endBang, a}} {
		isNotTold(t, l, api.ErrArg)
	}
}

// Nothing that may be told takes long, whatever may be done side by side.
func TestAsMuchAsMayBeSideBySide(t *testing.T) {
	for _, s := range []string{
		"a | b | c | d | e | f | yield | yield | yield | yield | yield | yield",
		"yield | (yield | (yield | (yield | (yield | (a | (b | (c | (d | (e | (f | yield))))))))))",
		"[(a | b | c | d | e | f | yield | yield | yield | yield)/skip]",
		"[(yield | yield | yield | yield | yield | yield | yield)/skip | throww]",
		"[a/b | c/d | e/f | yieldd | throww]",
		"(a + b) | (c + d) | (e + f) | (yield + throw) | yield | yield",
	} {
		l, _, e := parse.Parse(s)
		if e != api.OK || !mean.Small(l) {
			t.Fatalf("%s is no Small term: %d", s, e)
		}
		l = settle.Begin(l)
		all := meansAll(t, l)
		isFirst(t, l, all[0])
		isFirst(t, l, all[len(all)-1])
		for sign := range signs {
			isNotFound(t, l, trace.Trace{A: slices.Repeat([]string{"a"}, 7), End: sign})
		}
	}
	for _, right := range []bool{false, true} {
		l := chained(12, []api.Node{yield}, right)
		if got, e := runs.All(l); e != api.OK || !slices.Equal(texts(got), []string{"ok", "?"}) {
			t.Errorf("P14.2: All of 12 Yields = %v, %d", texts(got), e)
		}
		isFound(t, l, "ok", slices.Repeat([]int{0}, 12)...)
		isFound(t, l, "?", append(slices.Repeat([]int{0}, 11), 1)...)
		isNotFound(t, l, traceOf("!"))
	}
}

// A row that is as long as it may be is played out, from either side.
func TestALongRowIsPlayedOut(t *testing.T) {
	acts := chained(100, []api.Node{a}, false)
	did := strings.TrimSpace(strings.Repeat("a ", 100))
	isRun(t, acts, make([]int, 1000), "ok", did, 100)
	isRun(t, acts, slices.Repeat([]int{-1}, 100), "ok", did, 100)
	isRun(t, acts, slices.Repeat([]int{-1}, 99), "par "+strings.Repeat("par ", 98)+"a"+strings.Repeat(" ok", 99), strings.TrimSuffix(did, " a"), 99)
	yields := chained(50, []api.Node{yield}, true)
	isRun(t, yields, append(make([]int, 49), 1), "?", "", 50)
	isRun(t, yields, slices.Repeat([]int{-1}, 50), "?", "", 50)
}

// Far longer and deeper than any row may be.
func TestLongRows(t *testing.T) {
	deep := 1 << 16
	for _, l := range [][]api.Node{
		slices.Concat(slices.Repeat([]api.Node{par}, deep), slices.Repeat([]api.Node{yield}, deep+1)),
		slices.Concat(slices.Repeat([]api.Node{seq, a}, deep), []api.Node{a}),
		slices.Concat(slices.Repeat([]api.Node{block}, deep), []api.Node{a}),
		slices.Repeat([]api.Node{par}, deep), slices.Repeat([]api.Node{overOK}, deep),
	} {
		isNotTold(t, l, api.ErrArg)
		r := runs.Play(l, 0, 1, -1)
		if !slices.Equal(r.L, l) || len(r.A) != 0 || r.N != 0 {
			t.Errorf("P14.1: of %d nodes come %d by %d moves", len(l), len(r.L), r.N)
		}
		if x, ended := runs.Trace(r); ended || len(x.A) != 0 || x.End != 0 {
			t.Errorf("P14.1: Trace of %d nodes is %v, %v", len(l), x, ended)
		}
	}
}

func TestManyPicks(t *testing.T) {
	isRun(t, begun(t, "a ; b | yield"), make([]int, 1<<20), "ok", "a b", 3)
}
