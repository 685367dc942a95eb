package mean_test

import (
	"slices"
	"strings"

	"redress/api"
	"redress/row"
	"redress/trace"
)

// tree is a tree that is asked for one trace, or one pair, at a time: by taking that apart in all ways, and asking its kids for the parts. What was told is kept.
type tree struct {
	l    []api.Node
	kids []*tree
	told map[string]bool
}

func grow(n api.Node, kids ...*tree) *tree {
	l := []api.Node{n}
	for _, kid := range kids {
		l = append(l, kid.l...)
	}
	return &tree{l: l, kids: kids, told: map[string]bool{}}
}

// rows is all rows of some of these actions, each once, rising.
func rows(acts []string) [][]string {
	all := [][]string{nil}
	for k, action := range acts {
		others := slices.Concat(acts[:k], acts[k+1:])
		for _, behind := range rows(others) {
			all = append(all, slices.Concat([]string{action}, behind))
		}
	}
	slices.SortFunc(all, slices.Compare[[]string])
	return slices.CompactFunc(all, slices.Equal[[]string])
}

// acts is the names of all Acts of the tree, each as often as it is there.
func (x *tree) acts() []string {
	var names []string
	for _, n := range x.l {
		if n.Kind == api.Act {
			names = append(names, n.Name)
		}
	}
	return names
}

// candidates is all traces of some of the tree's Acts, rising: it can do no others.
func (x *tree) candidates() []trace.Trace {
	var l []trace.Trace
	for _, actions := range rows(x.acts()) {
		for _, end := range []int{api.Tick, api.Bang, api.Query} {
			l = append(l, trace.Trace{A: actions, End: end})
		}
	}
	return l
}

// together tells how two end side by side.
func together(s, t int) int {
	if s == api.Bang || t == api.Bang {
		return api.Bang
	}
	return max(s, t)
}

// cuts tells whether p, cut into two rows at some place, the first one ended by end, passes.
func cuts(p trace.Trace, end int, passes func(x, y trace.Trace) bool) bool {
	for k := range len(p.A) + 1 {
		if passes(trace.Trace{A: p.A[:k], End: end}, trace.Trace{A: p.A[k:], End: p.End}) {
			return true
		}
	}
	return false
}

// shares tells whether p, dealt out to two that go on side by side, passes.
func shares(p trace.Trace, passes func(x, y trace.Trace) bool) bool {
	for chosen := range 1 << len(p.A) {
		var x, y trace.Trace
		for k, action := range p.A {
			if chosen>>k&1 == 1 {
				x.A = append(x.A, action)
			} else {
				y.A = append(y.A, action)
			}
		}
		for x.End = api.Tick; x.End <= api.Query; x.End++ {
			for y.End = api.Tick; y.End <= api.Query; y.End++ {
				if together(x.End, y.End) == p.End && passes(x, y) {
					return true
				}
			}
		}
	}
	return false
}

// kept is what told says of that question, asked once.
func (x *tree) kept(question string, told func() bool) bool {
	is, known := x.told[question]
	if !known {
		is = told()
		x.told[question] = is
	}
	return is
}

// tooMany tells whether there are more actions than the tree has Acts: it does none twice.
func (x *tree) tooMany(actions int) bool {
	return actions > row.Count(x.l, api.Act)
}

// does tells whether a plain tree may do p.
func (x *tree) does(p trace.Trace) bool {
	if x.tooMany(len(p.A)) {
		return false
	}
	return x.kept(trace.Text(p), func() bool { return x.mayDo(p) })
}

func (x *tree) mayDo(p trace.Trace) bool {
	n := x.l[0]
	switch n.Kind {
	case api.Act:
		return p.End == api.Tick && slices.Equal(p.A, []string{n.Name})
	case api.Skip:
		return len(p.A) == 0 && p.End == api.Tick
	case api.Throw:
		return len(p.A) == 0 && p.End == api.Bang
	case api.Yield:
		return len(p.A) == 0 && p.End != api.Bang
	case api.Over:
		return len(p.A) == 0 && p.End == n.Sign
	case api.Block:
		return x.mayDoAsBlock(p)
	}
	first, second := x.kids[0], x.kids[1]
	behind := func(p, q trace.Trace) bool { return first.does(p) && second.does(q) }
	switch n.Kind {
	case api.Seq:
		return cuts(p, api.Tick, behind) || p.End != api.Tick && first.does(p)
	case api.Alt:
		return first.does(p) || second.does(p)
	case api.Par:
		return shares(p, behind)
	}
	return cuts(p, api.Bang, behind) || p.End != api.Bang && first.does(p)
}

func (x *tree) mayDoAsBlock(p trace.Trace) bool {
	kid := x.kids[0]
	return p.End == api.Tick && kid.begins(p) || cuts(p, api.Bang, kid.pairs)
}

// begins tells whether a paired tree may do p, however that is taken back.
func (x *tree) begins(p trace.Trace) bool {
	return x.kept("begins "+trace.Text(p), func() bool {
		return slices.ContainsFunc(x.candidates(), func(q trace.Trace) bool { return x.pairs(p, q) })
	})
}

// pairs tells whether a paired tree may do p, and be taken back by q.
func (x *tree) pairs(p, q trace.Trace) bool {
	if x.tooMany(len(p.A) + len(q.A)) {
		return false
	}
	return x.kept(trace.Text(p)+" / "+trace.Text(q), func() bool { return x.mayPair(p, q) })
}

func (x *tree) mayPair(p, q trace.Trace) bool {
	n, first := x.l[0], x.kids[0]
	nothing := len(q.A) == 0 && q.End == api.Tick
	if n.Kind == api.End {
		return len(p.A) == 0 && p.End == n.Sign && first.does(q)
	}
	second := x.kids[1]
	switch n.Kind {
	case api.Pair:
		if len(p.A) == 0 && p.End == api.Query && nothing {
			return true
		}
		return first.does(p) && (p.End == api.Tick && second.does(q) || p.End != api.Tick && nothing)
	case api.Going:
		return first.does(p) && (p.End == api.Tick && second.does(q) || p.End != api.Tick && nothing)
	case api.Alt:
		return first.pairs(p, q) || second.pairs(p, q)
	case api.Par:
		return shares(p, func(p, p2 trace.Trace) bool {
			return shares(q, func(q, q2 trace.Trace) bool { return first.pairs(p, q) && second.pairs(p2, q2) })
		})
	case api.Stack:
		return cuts(q, api.Tick, func(q, c trace.Trace) bool { return first.pairs(p, q) && second.does(c) }) || q.End != api.Tick && first.pairs(p, q)
	}
	return x.mayPairAsSeq(p, q)
}

// The second one of a Seq is taken back ahead of the first one; if that throws, or gives way, the first one is not taken back.
func (x *tree) mayPairAsSeq(p, q trace.Trace) bool {
	first, second := x.kids[0], x.kids[1]
	if p.End != api.Tick && first.pairs(p, q) {
		return true
	}
	return cuts(p, api.Tick, func(p, p2 trace.Trace) bool {
		whole := cuts(q, api.Tick, func(q2, q trace.Trace) bool { return first.pairs(p, q) && second.pairs(p2, q2) })
		return whole || q.End != api.Tick && first.begins(p) && second.pairs(p2, q)
	})
}

// byAsking is the text of all that the tree may do, or all its pairs, in order: each candidate is asked for.
func (x *tree) byAsking(paired bool) string {
	var told []string
	for _, p := range x.candidates() {
		if !paired && x.does(p) {
			told = append(told, trace.Text(p))
		}
		if paired && x.begins(p) {
			for _, q := range x.candidates() {
				if x.pairs(p, q) {
					told = append(told, trace.Text(p)+" / "+trace.Text(q))
				}
			}
		}
	}
	return strings.Join(told, "; ")
}
