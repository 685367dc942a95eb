package runs_test

import (
	"math"
	"slices"
	"strings"
	"testing"

	"redress/api"
	"redress/move"
	"redress/row"
	"redress/runs"
	"redress/settle"
	"redress/sort"
	"redress/step"
	"redress/trace"
)

// walk plays l on in all ways, in the order of the numbers that are picked, a move at a time, and tells each row that it comes to: the picks, the actions that were done, and the row.
func walk(l []api.Node, picks []int, did []string, tell func(picks []int, did []string, l []api.Node)) {
	tell(picks, did, l)
	for n := range move.Enabled(l) {
		m, _ := move.Pick(l, n)
		next, act, _ := step.Next(l, m)
		done := slices.Clone(did)
		if m.How == api.Do {
			done = append(done, act)
		}
		walk(next, append(slices.Clone(picks), n), done, tell)
	}
}

// found is the texts of all traces to which l may come, and for each the picks that came there first.
func found(t *testing.T, l []api.Node) map[string][]int {
	t.Helper()
	first := map[string][]int{}
	walk(l, nil, nil, func(picks []int, did []string, now []api.Node) {
		isRun(t, l, picks, text(now), strings.Join(did, " "), len(picks))
		sign, ended := settle.Ended(now)
		if !ended {
			return
		}
		isRun(t, l, append(slices.Clone(picks), 1, -1), text(now), strings.Join(did, " "), len(picks))
		told := strings.Join(append(slices.Clone(did), signs[sign]), " ")
		if _, known := first[told]; !known {
			first[told] = picks
		}
	})
	return first
}

// isAllFound holds what All and Find tell of l against all ways to play it.
func isAllFound(t *testing.T, l []api.Node) int {
	t.Helper()
	first := found(t, l)
	all, e := runs.All(l)
	for _, x := range all {
		if _, is := first[trace.Text(x)]; !is {
			t.Errorf("P14.2: All(%s) has %s, to which it never comes", text(l), trace.Text(x))
		}
	}
	if e != api.OK || len(all) != len(first) || !slices.IsSortedFunc(all, trace.Compare) {
		t.Errorf("P14.2: All(%s) = %v, %d, but it comes to %v", text(l), texts(all), e, first)
	}
	for told, picks := range first {
		isFound(t, l, told, picks...)
		// It never comes to the same actions and another sign, unless that was found too; nor to fewer of them.
		x := traceOf(told)
		for sign, word := range signs {
			for _, did := range [][]string{x.A, x.A[:len(x.A)/2], append(slices.Clone(x.A), "a")} {
				y := trace.Trace{A: did, End: sign}
				if _, is := first[strings.Join(append(slices.Clone(did), word), " ")]; !is {
					isNotFound(t, l, y)
				}
			}
		}
	}
	return len(first)
}

// isNotTold holds that All tells that error of l, and Find finds none.
func isNotTold(t *testing.T, l []api.Node, want api.Errno) {
	t.Helper()
	if got, e := runs.All(l); e != want || len(got) != 0 {
		t.Errorf("P14.2: All(%s) = %v, %d, want %d", text(l[:min(len(l), 30)]), texts(got), e, want)
	}
	for sign := range signs {
		isNotFound(t, l, trace.Trace{End: sign})
		isNotFound(t, l, trace.Trace{A: []string{"a"}, End: sign})
	}
}

var (
	leaves = []api.Node{a, skip, throw, yield, overOK, overBang, overQuery}
	ones   = []api.Node{block, endOK, endBang, endQuery}
	twos   = []api.Node{seq, alt, par, hand, pair, going, stack}
)

// grown is all trees of up to so many nodes that are, or go on, plain or paired, of these nodes: what is of no sort is left out, as no tree of a sort has it.
func grown(most int, leaves, ones, twos []api.Node) [][]api.Node {
	bySize := [][][]api.Node{nil}
	for size := 1; size <= most; size++ {
		var l [][]api.Node
		keep := func(n api.Node, kids ...[]api.Node) {
			if x := row.Make(n, kids...); len(x) == size && sort.Of(x) != sort.None {
				l = append(l, x)
			}
		}
		for _, n := range leaves {
			keep(n)
		}
		for _, x := range bySize[size-1] {
			for _, n := range ones {
				keep(n, x)
			}
		}
		for left := 1; left < size-1; left++ {
			for _, x := range bySize[left] {
				for _, y := range bySize[size-1-left] {
					for _, n := range twos {
						keep(n, x, y)
					}
				}
			}
		}
		bySize = append(bySize, l)
	}
	return slices.Concat(bySize...)
}

func TestEveryTree(t *testing.T) {
	several, paired, not := 0, 0, 0
	for _, l := range slices.Concat(
		grown(5, leaves, ones, twos),
		grown(7, []api.Node{a, overBang}, []api.Node{block, endBang}, []api.Node{par, pair, going}),
		grown(7, []api.Node{yield}, []api.Node{block, endBang}, []api.Node{par, alt, hand, pair}),
		grown(7, []api.Node{a, throw}, []api.Node{block}, []api.Node{seq, par, pair, stack}),
	) {
		switch {
		case sort.On(l, true):
			paired++
			found(t, l)
			isNotTold(t, l, api.ErrArg)
		case !settle.Settled(l):
			not++
			isRun(t, l, []int{0, 1}, text(l), "", 0)
			isNotTold(t, l, api.ErrArg)
		case isAllFound(t, l) > 1:
			several++
		}
	}
	if several < 1000 || paired < 1000 || not < 1000 {
		t.Errorf("only %d trees of several traces, %d that are paired and %d that are not settled were tried", several, paired, not)
	}
}

// Of what is beside what has thrown, in the same block, what is free may change while it is played.
func TestEveryBlock(t *testing.T) {
	several := 0
	beside := [][]api.Node{{pair, throw, skip}, {going, alt, a, throw, b}, {endBang, b}}
	for _, x := range grown(5, []api.Node{a, yield}, []api.Node{endBang}, []api.Node{seq, alt, par, pair}) {
		if !sort.On(x, true) {
			continue
		}
		for _, y := range beside {
			for _, l := range [][]api.Node{row.Make(block, row.Make(par, x, y)), row.Make(block, row.Make(par, y, x))} {
				if isAllFound(t, settle.Settle(l)) > 1 {
					several++
				}
			}
		}
	}
	if several < 300 {
		t.Errorf("only %d blocks of several traces were tried", several)
	}
}

// Each number picks as the same one does, counted round.
func TestEveryNumber(t *testing.T) {
	for _, s := range []string{"a | b | yield", "(a + b) | yield ; (a + throw)", "[a/b | throww] | yield", "a ; b ; yield"} {
		l := begun(t, s)
		many := len(move.Enabled(l))
		for n := -3 * many; n < 3*many; n++ {
			want := runs.Play(l, (n+3*many)%many)
			isRun(t, l, []int{n}, text(want.L), strings.Join(want.A, " "), 1)
		}
		for _, n := range []int{math.MinInt, math.MaxInt} {
			m, _ := move.Pick(l, n)
			next, act, _ := step.Next(l, m)
			isRun(t, l, []int{n}, text(next), act, 1)
		}
	}
}
