package runs

import (
	"slices"
	"strings"

	"redress/api"
	"redress/move"
	"redress/settle"
	"redress/step"
	"redress/trace"
)

// after is what comes of a move, and what was done by it: one action, or none.
type after struct {
	l   []api.Node
	did []string
}

// asked is a row, and how many of the actions that are sought it is still to do.
type asked struct {
	row  string
	left int
}

// by is what comes of l by the move m, which may be done next in it.
func by(l []api.Node, m api.Move) after {
	next, act, _ := step.Next(l, m)
	if m.How != api.Do {
		return after{l: next}
	}
	return after{l: next, did: []string{act}}
}

// rest is these actions without what was done, and whether they begin with that.
func (x after) rest(acts []string) ([]string, bool) {
	if len(x.did) > len(acts) || !slices.Equal(x.did, acts[:len(x.did)]) {
		return nil, false
	}
	return acts[len(x.did):], true
}

// explorer makes a function that tells all traces to which a settled row may come, as a set. Many ways lead to the same row, so what was explored is kept.
func explorer() func(l []api.Node) []trace.Trace {
	known := map[string][]trace.Trace{}
	var explore func(l []api.Node) []trace.Trace
	explore = func(l []api.Node) []trace.Trace {
		if end, ended := settle.Ended(l); ended {
			return []trace.Trace{{End: end}}
		}
		if set, told := known[key(l)]; told {
			return set
		}
		var all []trace.Trace
		for _, m := range enough(move.Enabled(l)) {
			x := by(l, m)
			for _, t := range explore(x.l) {
				all = append(all, trace.Then(trace.Trace{A: x.did, End: api.Tick}, t))
			}
		}
		set := trace.Set(all)
		known[key(l)] = set
		return set
	}
	return explore
}

// seeker makes a function that tells whether a settled row may do just these actions, and end by that sign. It explores no more than what does them: that is far less than all.
func seeker(end int) func(l []api.Node, acts []string) bool {
	known := map[asked]bool{}
	var may func(l []api.Node, acts []string) bool
	may = func(l []api.Node, acts []string) bool {
		if s, ended := settle.Ended(l); ended {
			return s == end && len(acts) == 0
		}
		name := asked{key(l), len(acts)}
		if is, told := known[name]; told {
			return is
		}
		is := slices.ContainsFunc(enough(move.Enabled(l)), func(m api.Move) bool {
			x := by(l, m)
			rest, fits := x.rest(acts)
			return fits && may(x.l, rest)
		})
		known[name] = is
		return is
	}
	return may
}

// enough is as many of the moves of a settled row as lead to all its traces: where a place has two moves, these alone. One of them is done there sooner or later, whatever else is done, and at once as well as later: it does no action, and takes no other move away.
func enough(moves []api.Move) []api.Move {
	for k := 1; k < len(moves); k++ {
		if moves[k-1].At == moves[k].At {
			return moves[k-1 : k+1]
		}
	}
	return moves
}

// key is a text that no other settled row has: kinds and signs are no letters.
func key(l []api.Node) string {
	var text strings.Builder
	for _, n := range l {
		text.WriteByte(byte(n.Kind))
		text.WriteByte(byte(n.Sign))
		text.WriteString(n.Name)
	}
	return text.String()
}
