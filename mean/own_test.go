package mean_test

import (
	"slices"
	"testing"

	"redress/api"
	"redress/mean"
	"redress/trace"
)

// Of each kind of node, where parts of what is told come to more than one place.
var shared = [][]api.Node{
	{a}, {yield}, {overBang}, {alt, a, yield}, {seq, par, a, b, yield}, {seq, a, alt, throw, yield}, {hand, alt, seq, a, throw, b, yield}, {hand, seq, a, throw, alt, b, skip},
	{block, seq, pair, a, alt, b, yield, pair, throw, skip}, {block, pair, alt, a, seq, b, throw, c},
	{pair, a, alt, b, c}, {going, seq, a, throw, alt, b, c}, {seq, pair, a, b, alt, pair, a, b, pair, yield, c}, {par, pair, a, alt, b, c, going, c, yield}, {alt, pair, a, b, pair, b, seq, a, b},
	{stack, pair, a, b, alt, b, yield}, {stack, endBang, seq, a, throw, b}, {endQuery, alt, seq, a, b, seq, b, yield}, {seq, endBang, alt, a, b, pair, c, d},
}

// lists is all lists of actions of what is told of a tree, and what they are part of, as a text.
func lists(l []api.Node) (actions [][]string, all func() string) {
	does, _ := mean.Plain(l)
	pairs, _ := mean.Paired(l)
	back, _ := mean.Back(l)
	for _, p := range slices.Concat(does, back) {
		actions = append(actions, p.A)
	}
	for _, x := range pairs {
		actions = append(actions, x.P.A, x.Q.A)
	}
	return actions, func() string { return texts(does) + " | " + pairTexts(pairs) + " | " + texts(back) }
}

// spoil writes into all that a list of actions may reach.
func spoil(l []string) {
	l = l[:cap(l)]
	for k := range l {
		l[k] = "spoilt"
	}
}

func TestNoTwoListsShare(t *testing.T) {
	for _, l := range shared {
		first, _ := lists(l)
		for k := range first {
			actions, _ := lists(l)
			want, _ := lists(l)
			spoil(actions[k])
			for j := range actions {
				if j != k && !slices.Equal(actions[j], want[j]) {
					t.Errorf("R6: of %v, lists %d and %d share memory", l, k, j)
				}
			}
		}
	}
}

func TestWhatIsToldIsTheCallersOwn(t *testing.T) {
	for _, l := range shared {
		_, kept := lists(l)
		want := kept()
		does, _ := mean.Plain(l)
		pairs, _ := mean.Paired(l)
		back, _ := mean.Back(l)
		for _, p := range slices.Concat(does, back) {
			spoil(p.A)
		}
		for _, x := range pairs {
			spoil(x.P.A)
			spoil(x.Q.A)
		}
		clear(does[:cap(does)])
		clear(back[:cap(back)])
		clear(pairs[:cap(pairs)])
		if _, again := lists(l); again() != want || kept() != want {
			t.Errorf("R6: to write into what was told of %v changed what is told", l)
		}
	}
}

func TestTheRowStaysAsItIs(t *testing.T) {
	spare := api.Node{Kind: api.Yield, Name: "spare", Sign: 5}
	for _, was := range append(shared, nil, []api.Node{seq, a}, bush(25, 3), bush(23, 6)) {
		full := append(slices.Clone(was), spare, spare)
		l := full[:len(was)]
		_, first := lists(l)
		mean.Small(l)
		_, second := lists(l)
		if first() != second() {
			t.Errorf("R7: of %v is told %s, then %s", was, first(), second())
		}
		if !slices.Equal(full, append(slices.Clone(was), spare, spare)) {
			t.Errorf("R5: %v was changed", was)
		}
		kept := first()
		for k := range full {
			full[k] = api.Node{Kind: api.Act, Name: "z"}
		}
		if first() != kept {
			t.Errorf("R6: what is told of %v changed with it", was)
		}
	}
}

// Traces are a set: told once, though there are many ways to come to them.
func TestToldOnce(t *testing.T) {
	for _, l := range append(shared, bush(23, 6), bush(24, 4), []api.Node{par, par, a, a, par, a, a}, []api.Node{block, par, pair, a, a, par, pair, a, a, pair, throw, skip}) {
		does, _ := mean.Plain(l)
		back, _ := mean.Back(l)
		pairs, _ := mean.Paired(l)
		for _, set := range [][]trace.Trace{does, back} {
			for k := 1; k < len(set); k++ {
				if trace.Compare(set[k-1], set[k]) >= 0 {
					t.Errorf("P7.2, P7.4: of %v, %v is told ahead of %v", l, set[k-1], set[k])
				}
			}
		}
		for k := 1; k < len(pairs); k++ {
			byP, byQ := trace.Compare(pairs[k-1].P, pairs[k].P), trace.Compare(pairs[k-1].Q, pairs[k].Q)
			if byP > 0 || byP == 0 && byQ >= 0 {
				t.Errorf("P7.3: of %v, %v is told ahead of %v", l, pairs[k-1], pairs[k])
			}
		}
	}
}
