package mean

import (
	"cmp"
	"slices"

	"redress/api"
	"redress/row"
	"redress/trace"
)

// paired is the pairs of a tree that is paired, as a set.
func paired(l []api.Node) []Pair {
	n, kids := l[0], row.Kids(l)
	switch n.Kind {
	case api.Going:
		return set(going(plain(kids[0]), plain(kids[1])))
	case api.Pair:
		// What has not begun may also give way.
		way := Pair{P: ended(api.Query), Q: ended(api.Tick)}
		return set(append(going(plain(kids[0]), plain(kids[1])), way))
	case api.Stack:
		return set(stacked(paired(kids[0]), plain(kids[1])))
	case api.End:
		return set(with(ended(n.Sign), plain(kids[0])))
	}
	return set(pairedOfTwo(n.Kind, paired(kids[0]), paired(kids[1])))
}

// pairedOfTwo is the pairs of a node of that kind, of two that have these pairs.
func pairedOfTwo(kind int, first, second []Pair) []Pair {
	switch kind {
	case api.Seq:
		return each(first, func(x Pair) []Pair { return x.then(second) })
	case api.Par:
		return each(first, func(x Pair) []Pair { return x.beside(second) })
	}
	return slices.Concat(first, second)
}

// going is the pairs of one that does these traces, and is taken back by those of back: if it did not end well, there is nothing to take back.
func going(did, back []trace.Trace) []Pair {
	return each(did, func(p trace.Trace) []Pair {
		if p.End != api.Tick {
			return with(p, only(ended(api.Tick)))
		}
		return with(p, back)
	})
}

// stacked is these pairs, each taken back by what takes it back, and each of more behind that.
func stacked(l []Pair, more []trace.Trace) []Pair {
	return each(l, func(x Pair) []Pair { return with(x.P, then(x.Q, more)) })
}

// then is each of l behind x: what was done last is taken back first.
func (x Pair) then(l []Pair) []Pair {
	if x.P.End != api.Tick {
		return []Pair{x}
	}
	return each(l, func(y Pair) []Pair {
		return []Pair{{P: trace.Then(x.P, y.P), Q: trace.Then(y.Q, x.Q)}}
	})
}

// beside is each of l side by side with x, and taken back side by side with it.
func (x Pair) beside(l []Pair) []Pair {
	return each(l, func(y Pair) []Pair {
		back := trace.Par(x.Q, y.Q)
		return each(trace.Par(x.P, y.P), func(p trace.Trace) []Pair { return with(p, back) })
	})
}

// with is p, with each of back to take it back.
func with(p trace.Trace, back []trace.Trace) []Pair {
	return each(back, func(q trace.Trace) []Pair { return []Pair{{P: p, Q: q}} })
}

func (x Pair) against(y Pair) int {
	return cmp.Or(trace.Compare(x.P, y.P), trace.Compare(x.Q, y.Q))
}

// set is the pairs of l, each once, rising. None shares its actions with another one: so what is told is the caller's own.
func set(l []Pair) []Pair {
	l = slices.Clone(l)
	slices.SortFunc(l, Pair.against)
	l = slices.CompactFunc(l, func(x, y Pair) bool { return x.against(y) == 0 })
	for k, x := range l {
		l[k] = Pair{P: own(x.P), Q: own(x.Q)}
	}
	return l
}

func own(p trace.Trace) trace.Trace {
	return trace.Trace{A: slices.Clone(p.A), End: p.End}
}
