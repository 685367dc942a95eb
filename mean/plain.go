package mean

import (
	"redress/api"
	"redress/row"
	"redress/trace"
)

// plain is the traces of a tree that is plain, as a set. Each part's traces become a set ahead of being put together: else there would be as many as ways to come to them.
func plain(l []api.Node) []trace.Trace {
	n, kids := l[0], row.Kids(l)
	switch n.Kind {
	case api.Act:
		return only(trace.Trace{A: []string{n.Name}, End: api.Tick})
	case api.Skip:
		return only(ended(api.Tick))
	case api.Throw:
		return only(ended(api.Bang))
	case api.Yield:
		return []trace.Trace{ended(api.Tick), ended(api.Query)}
	case api.Over:
		return only(ended(n.Sign))
	case api.Block:
		return trace.Set(each(paired(kids[0]), asBlock))
	}
	return trace.Set(plainOfTwo(n.Kind, plain(kids[0]), plain(kids[1])))
}

// plainOfTwo is the traces of a node of that kind, of two that have these traces.
func plainOfTwo(kind int, first, second []trace.Trace) []trace.Trace {
	switch kind {
	case api.Seq:
		return each(first, func(p trace.Trace) []trace.Trace { return then(p, second) })
	case api.Par:
		return each(first, func(p trace.Trace) []trace.Trace { return beside(p, second) })
	case api.Hand:
		return each(first, func(p trace.Trace) []trace.Trace { return handed(p, second) })
	}
	return trace.Or(first, second)
}

// handed is p, or, if that threw, what it did and each of l behind it.
func handed(p trace.Trace, l []trace.Trace) []trace.Trace {
	if p.End != api.Bang {
		return only(p)
	}
	return then(ticked(p), l)
}

// asBlock is what a block does where the pair x is in it: what threw is taken back. What gave way is left out: in a block it does so only beside what throws, and then all of that ends with a throw.
func asBlock(x Pair) []trace.Trace {
	switch x.P.End {
	case api.Tick:
		return only(x.P)
	case api.Bang:
		return then(ticked(x.P), only(x.Q))
	}
	return nil
}

// then is each of l behind p.
func then(p trace.Trace, l []trace.Trace) []trace.Trace {
	return each(l, func(q trace.Trace) []trace.Trace { return only(trace.Then(p, q)) })
}

// beside is each of l side by side with p.
func beside(p trace.Trace, l []trace.Trace) []trace.Trace {
	return each(l, func(q trace.Trace) []trace.Trace { return trace.Par(p, q) })
}

// ended is the empty trace that ends with that sign.
func ended(sign int) trace.Trace {
	return trace.Trace{End: sign}
}

// ticked is p's actions, ended well, so that something may come behind them.
func ticked(p trace.Trace) trace.Trace {
	return trace.Trace{A: p.A, End: api.Tick}
}

func only(p trace.Trace) []trace.Trace {
	return []trace.Trace{p}
}
