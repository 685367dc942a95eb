package step_test

import (
	"slices"
	"testing"

	"redress/api"
	"redress/mean"
	"redress/move"
	"redress/parse"
	"redress/refuse"
	"redress/row"
	"redress/settle"
	"redress/sort"
	"redress/step"
	"redress/trace"
)

// texts is traces as texts.
func texts(l []trace.Trace) []string {
	var told []string
	for _, x := range l {
		told = append(told, trace.Text(x))
	}
	return told
}

// byMoves is the traces of what comes of l by each of its moves, with the action ahead that is done by it.
func byMoves(t *testing.T, l []api.Node) []trace.Trace {
	t.Helper()
	var all []trace.Trace
	for _, m := range move.Enabled(l) {
		next, act, e := step.Next(l, m)
		if e != api.OK {
			t.Fatalf("P13.2: Next(%s, %v) is refused: %d", text(l), m, e)
		}
		does, e := mean.Plain(next)
		if e != api.OK {
			t.Fatalf("P13.4: of %s comes %s, of which no meaning is told: %d", text(l), text(next), e)
		}
		for _, p := range does {
			if act != "" {
				p = trace.Then(trace.Trace{A: []string{act}, End: api.Tick}, p)
			}
			all = append(all, p)
		}
	}
	return trace.Set(all)
}

// meansItsMoves holds the meaning of l against that of its moves, and tells whether there is one.
func meansItsMoves(t *testing.T, l []api.Node) bool {
	t.Helper()
	_, ended := settle.Ended(l)
	// Many Acts side by side have more traces than a test has time for.
	if ended || !sort.On(l, false) || !settle.Settled(l) || !mean.Small(l) || row.Count(l, api.Act) > 5 {
		return false
	}
	does, e := mean.Plain(l)
	if got := byMoves(t, l); e != api.OK || !slices.Equal(texts(got), texts(does)) {
		t.Fatalf("P13.4: %s means %v, but its moves %v", text(l), texts(does), texts(got))
	}
	return len(does) > 1
}

func TestEveryTreeMeansItsMoves(t *testing.T) {
	many := 0
	for _, l := range slices.Concat(everyTree(), byChance(3000, 4), byChance(1000, 6)) {
		if meansItsMoves(t, l) {
			many++
		}
	}
	if many < 2000 {
		t.Errorf("only %d trees of several traces were tried", many)
	}
}

// lessEach holds that what comes of each move is settled, of the same kind as l, plain or paired, and has fewer places at which something is to be done, or chosen.
func lessEach(t *testing.T, l []api.Node) {
	t.Helper()
	waiting := func(l []api.Node) int { return row.Count(l, api.Act, api.Alt, api.Yield, api.Pair) }
	is := func(next []api.Node) {
		if !settle.Settled(next) || sort.On(next, true) != sort.On(l, true) || waiting(next) >= waiting(l) {
			t.Fatalf("P13.2, P13.4: of %s comes %s", text(l), text(next))
		}
	}
	for _, m := range move.Enabled(l) {
		next, _, _ := step.Next(l, m)
		is(next)
		if m.How == api.Do {
			next, _ = step.Refuse(l, m)
			is(next)
		}
	}
}

func TestEachMoveLeavesLess(t *testing.T) {
	for _, l := range slices.Concat(everyTree(), byChance(3000, 5), byChance(1000, 8)) {
		lessEach(t, l)
	}
}

// reached is all that comes of l by moves and refusals, l too, each once.
func reached(l []api.Node) [][]api.Node {
	seen := map[string]bool{text(l): true}
	all := [][]api.Node{l}
	for k := 0; k < len(all); k++ {
		for _, m := range move.Enabled(all[k]) {
			next, _, _ := step.Next(all[k], m)
			thrown, _ := step.Refuse(all[k], m)
			for _, x := range [][]api.Node{next, thrown} {
				if len(x) > 0 && !seen[text(x)] {
					seen[text(x)] = true
					all = append(all, x)
				}
			}
		}
	}
	return all
}

// What was begun as a term has ended, or has a move, wherever it is; and means its moves.
func TestWhateverComesOfATerm(t *testing.T) {
	terms := grown(7, []string{"a", "throw", "yield"}, []string{"block"}, []string{"seq", "par", "hand", "pair"})
	for _, s := range []string{
		"[a/b ; c/d ; throww]", "[a/b | c/(d + throw)] ; e", "[(a + throw)/b | yield/c | d/skip]", "[a/[b/c ; throww]] | yield", "[[a/b ; (c + throw)/d]/e ; yieldd]", "([a/b | throww] > c) | yield",
		"[(yield ; a)/b | (c + throw)/d]", "[((yield | (a + throw)) > b)/c | throww]", "[a/b ; (c/d | yieldd) ; throww] ; e", "[([yield/a | throww] | yield)/b | throww]",
	} {
		l, _, e := parse.Parse(s)
		if e != api.OK {
			t.Fatalf("%s is no term: %d", s, e)
		}
		terms = append(terms, text(l))
	}
	many := 0
	for _, words := range terms {
		l := tree(words)
		if !sort.Right(l) {
			continue
		}
		for _, x := range reached(settle.Begin(l)) {
			_, ended := settle.Ended(x)
			if moves := move.Enabled(x); ended != (len(moves) == 0) {
				t.Fatalf("P13.4: of %s comes %s, which has ended: %v, and has the moves %v", words, text(x), ended, moves)
			}
			if meansItsMoves(t, x) {
				many++
			}
		}
	}
	if many < 2000 {
		t.Errorf("only %d trees of several traces were tried", many)
	}
}

// To be refused is to go to the right, where the Act may be refused (8).
func TestRefusedIsAThrow(t *testing.T) {
	many := 0
	for _, l := range slices.Concat(everyTree(), byChance(2000, 5)) {
		for _, m := range move.Enabled(l) {
			marked := refuse.Mark(l, m.At)
			if m.How != api.Do || len(marked) > api.MaxRow {
				continue
			}
			many++
			next, act, e := step.Next(marked, api.Move{At: m.At, How: api.Right})
			if e != api.OK || act != "" {
				t.Fatalf("P13.2: Next(%s, right %d) = %s, %q, %d", text(marked), m.At, text(next), act, e)
			}
			isRefused(t, l, m.At, next)
			// And to go to the left leaves the Act to be done.
			if next, _, _ := step.Next(marked, api.Move{At: m.At, How: api.Left}); !slices.Equal(next, l) {
				t.Fatalf("P13.2: Next(%s, left %d) = %s, want %s", text(marked), m.At, text(next), text(l))
			}
		}
	}
	if many < 1000 {
		t.Errorf("only %d refusals were tried", many)
	}
}
