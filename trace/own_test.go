package trace_test

import (
	"slices"
	"testing"

	"redress/api"
	"redress/trace"
)

// What lies behind the end of a list that is handed in.
const spare = "spare"

// roomy is the letters in a list with room behind them; what lies in that room is not to be written over.
func roomy(actions string) []string {
	return append(letters(actions), spare, spare, spare)[:len(actions)]
}

func untouched(l []string, actions string) bool {
	all := l[:len(actions)+3]
	return slices.Equal(all, append(letters(actions), spare, spare, spare))
}

// spoil writes into all that a list of actions may reach.
func spoil(l []string) {
	l = l[:cap(l)]
	for k := range l {
		l[k] = "spoilt"
	}
}

func spoilAll(l []trace.Trace) {
	for _, t := range l[:cap(l)] {
		spoil(t.A)
	}
	for k := range l[:cap(l)] {
		l[:cap(l)][k] = trace.Trace{A: []string{"spoilt"}, End: -9}
	}
}

func TestThenIsTheCallersOwn(t *testing.T) {
	for _, actions := range []string{"", "a", "ab"} {
		for _, more := range []string{"", "c", "cd"} {
			for _, end := range everyEnd() {
				p := trace.Trace{A: roomy(actions), End: end}
				q := trace.Trace{A: roomy(more), End: api.Bang}
				got := trace.Then(p, q)
				want := trace.Trace{A: slices.Clone(got.A), End: got.End}
				spoil(got.A)
				if !untouched(p.A, actions) || !untouched(q.A, more) {
					t.Errorf("R6: Then of %s, ended by %d, and %s: to write into it changed what was given", actions, end, more)
				}
				got = trace.Then(p, q)
				spoil(p.A)
				spoil(q.A)
				if !same(got, want) {
					t.Errorf("R6: Then of %s, ended by %d, and %s keeps what was given: %v", actions, end, more, got)
				}
			}
		}
	}
}

func TestThenOfOneTwice(t *testing.T) {
	p := trace.Trace{A: roomy("a"), End: api.Tick}
	first := trace.Then(p, of("b", api.Tick))
	if second := trace.Then(p, of("c", api.Tick)); !same(first, of("ab", api.Tick)) || !same(second, of("ac", api.Tick)) {
		t.Errorf("R6: two behind the same one: %v and %v", first, second)
	}
	if got := trace.Then(p, p); !same(got, of("aa", api.Tick)) || !untouched(p.A, "a") {
		t.Errorf("R5: one behind itself: %v", got)
	}
}

func TestSetLeavesItsList(t *testing.T) {
	all := shuffled(slices.Concat(rising(), rising()), 5)
	kept := copied(all)
	room := append(all, of("z", 7))[:len(all)]
	sets := map[string]func() []trace.Trace{
		"Set": func() []trace.Trace { return trace.Set(room) },
		// Behind the end of the first list lie traces that are not given here.
		"Or":             func() []trace.Trace { return trace.Or(room[:9], room[20:]) },
		"Or of one list": func() []trace.Trace { return trace.Or(room, nil) },
	}
	for name, set := range sets {
		got := set()
		if !sameList(room, kept) || !same(room[:len(room)+1][len(room)], of("z", 7)) {
			t.Errorf("R5: %s changed its list", name)
		}
		spoilAll(got)
		if !sameList(room, kept) || !same(room[:len(room)+1][len(room)], of("z", 7)) {
			t.Errorf("R6: to write into what %s tells changed its list", name)
		}
	}
}

func TestSetKeepsNothing(t *testing.T) {
	for _, tell := range []func(l []trace.Trace) []trace.Trace{
		trace.Set,
		func(l []trace.Trace) []trace.Trace { return trace.Or(l, nil) },
		func(l []trace.Trace) []trace.Trace { return trace.Or(nil, l) },
	} {
		l := rising()
		got := tell(l)
		spoilAll(l)
		if !sameList(got, rising()) {
			t.Errorf("R6: a set changed with the list it was made of: %v", got)
		}
	}
}

// Traces that are given may share their actions; those that are told must not.
func TestSetPartsWhatWasShared(t *testing.T) {
	actions := letters("aaa")
	got := trace.Set([]trace.Trace{{A: actions, End: api.Tick}, {A: actions[:2], End: api.Tick}, {A: actions, End: api.Bang}})
	if !sameList(got, []trace.Trace{of("aa", api.Tick), of("aaa", api.Tick), of("aaa", api.Bang)}) {
		t.Fatalf("P2.1: Set = %v", got)
	}
	spoil(got[0].A)
	spoil(got[2].A)
	if !same(got[1], of("aaa", api.Tick)) || actions[0] != "a" {
		t.Error("R6: traces of one set share their actions")
	}
}

func TestMixIsTheCallersOwn(t *testing.T) {
	for _, c := range [][2]string{{"", ""}, {"a", ""}, {"", "ab"}, {"ab", "c"}, {"ab", "ab"}, {"abc", "cba"}} {
		a, b := roomy(c[0]), roomy(c[1])
		want := mixedByHand(a, b)
		for k := range want {
			got := trace.Mix(a, b)
			if !slices.EqualFunc(got, want, slices.Equal) || !untouched(a, c[0]) || !untouched(b, c[1]) {
				t.Fatalf("R5: Mix(%s, %s) tells %q, or changed what was given", c[0], c[1], got)
			}
			spoil(got[k])
			for j := range got {
				if j != k && !slices.Equal(got[j], want[j]) {
					t.Errorf("R6: Mix(%s, %s): rows %d and %d share memory", c[0], c[1], k, j)
				}
			}
			if !untouched(a, c[0]) || !untouched(b, c[1]) {
				t.Errorf("R6: Mix(%s, %s): to write into row %d changed what was given", c[0], c[1], k)
			}
		}
		got := trace.Mix(a, b)
		spoil(a)
		spoil(b)
		if !slices.EqualFunc(got, want, slices.Equal) {
			t.Errorf("R6: Mix(%s, %s) keeps what was given", c[0], c[1])
		}
	}
}

func TestParIsTheCallersOwn(t *testing.T) {
	for _, c := range [][2]string{{"", ""}, {"a", ""}, {"", "ab"}, {"ab", "ba"}} {
		p, q := trace.Trace{A: roomy(c[0]), End: api.Query}, trace.Trace{A: roomy(c[1]), End: api.Tick}
		want := copied(trace.Par(p, q))
		for k := range want {
			got := trace.Par(p, q)
			spoil(got[k].A)
			for j := range got {
				if j != k && !same(got[j], want[j]) {
					t.Errorf("R6: Par(%s, %s): traces %d and %d share memory", c[0], c[1], k, j)
				}
			}
		}
		if !untouched(p.A, c[0]) || !untouched(q.A, c[1]) {
			t.Errorf("R6: Par(%s, %s): to write into it changed what was given", c[0], c[1])
		}
		got := trace.Par(p, q)
		spoil(p.A)
		spoil(q.A)
		if !sameList(got, want) {
			t.Errorf("R6: Par(%s, %s) keeps what was given", c[0], c[1])
		}
	}
}

func TestAskingLeavesWhatWasGiven(t *testing.T) {
	for _, actions := range []string{"", "a", "ab"} {
		x := trace.Trace{A: roomy(actions), End: api.Bang}
		y := trace.Trace{A: roomy("ab"), End: api.Tick}
		list := []trace.Trace{y, x, y}
		trace.Text(x)
		trace.Compare(x, y)
		trace.Has(list, x)
		if !untouched(x.A, actions) || !untouched(y.A, "ab") || !sameList(list, []trace.Trace{y, of(actions, api.Bang), y}) {
			t.Errorf("R5: %s was changed by Text, Compare or Has", actions)
		}
	}
}
