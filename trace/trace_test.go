package trace_test

import (
	"math"
	"slices"
	"strings"
	"testing"

	"redress/api"
	"redress/sign"
	"redress/trace"
)

var signs = []int{api.Tick, api.Bang, api.Query}

// Ends that are no sign, on both sides of the signs.
var noSigns = []int{math.MinInt, -2, -1, 0, api.Query + 1, 257, math.MaxInt}

func everyEnd() []int {
	return slices.Concat(signs, noSigns)
}

// of is a trace of actions of one byte each.
func of(actions string, end int) trace.Trace {
	return trace.Trace{A: letters(actions), End: end}
}

func letters(s string) []string {
	var l []string
	for k := range len(s) {
		l = append(l, s[k:k+1])
	}
	return l
}

// rising has traces of all shapes, each ahead of all behind it.
func rising() []trace.Trace {
	return []trace.Trace{
		of("", math.MinInt), of("", -1), of("", 0), of("", api.Tick), of("", api.Bang), of("", api.Query), of("", 4), of("", math.MaxInt),
		{A: []string{""}, End: -1}, {A: []string{""}, End: api.Tick}, {A: []string{"", ""}, End: api.Tick}, {A: []string{"", "a"}, End: api.Tick},
		of("A", api.Tick), of("Z", api.Bang),
		of("a", -7), of("a", 0), of("a", api.Tick), of("a", api.Bang), of("a", api.Query), of("a", 9),
		of("aa", api.Tick), of("aaa", api.Tick), of("ab", -1), of("ab", api.Tick), of("ab", api.Query), of("aba", api.Tick), of("ac", api.Tick), of("az", api.Tick),
		{A: []string{"a\x00"}, End: api.Tick}, {A: []string{"aa"}, End: api.Tick}, {A: []string{"ab"}, End: api.Tick}, {A: []string{"ab", "a"}, End: api.Tick}, {A: []string{"abc"}, End: 0},
		of("b", math.MinInt), of("b", api.Tick), of("ba", api.Tick), {A: []string{"ba"}, End: api.Tick}, of("c", api.Tick),
		{A: []string{"\u00e9"}, End: api.Tick}, {A: []string{"\uffff"}, End: api.Tick}, {A: []string{"\U00010000"}, End: api.Tick}, {A: []string{"\xff"}, End: api.Tick},
	}
}

// few has traces with and without actions, the same ones among them, with every End.
func few() []trace.Trace {
	var l []trace.Trace
	for _, actions := range []string{"", "a", "b", "ab"} {
		for _, end := range everyEnd() {
			l = append(l, of(actions, end))
		}
	}
	return l
}

// same holds traces against each other without a call of the package.
func same(a, b trace.Trace) bool {
	return slices.Equal(a.A, b.A) && a.End == b.End
}

func sameList(a, b []trace.Trace) bool {
	return slices.EqualFunc(a, b, same)
}

func copied(l []trace.Trace) []trace.Trace {
	var c []trace.Trace
	for _, t := range l {
		c = append(c, trace.Trace{A: slices.Clone(t.A), End: t.End})
	}
	return c
}

// shuffled is l in another order for each of some numbers, always the same one.
func shuffled(l []trace.Trace, by int) []trace.Trace {
	c := copied(l)
	seed := uint32(by)
	for k := len(c) - 1; k > 0; k-- {
		seed = seed*1664525 + 1013904223
		at := int(seed>>8) % (k + 1)
		c[k], c[at] = c[at], c[k]
	}
	return c
}

func TestCompare(t *testing.T) {
	l := rising()
	for i, a := range l {
		for j, b := range l {
			got := trace.Compare(a, b)
			if (got < 0) != (i < j) || (got > 0) != (i > j) {
				t.Errorf("P2.1: Compare(%v, %v) = %d, of places %d and %d", a, b, got, i, j)
			}
		}
	}
}

func TestCompareEmptyWithNone(t *testing.T) {
	none, empty := trace.Trace{End: api.Tick}, trace.Trace{A: []string{}, End: api.Tick}
	if trace.Compare(none, empty) != 0 || trace.Compare(empty, none) != 0 {
		t.Error("R3: no actions and an empty list of them are told apart")
	}
	if got := trace.Set([]trace.Trace{none, empty, none}); len(got) != 1 {
		t.Errorf("R3: Set has no actions %d times", len(got))
	}
	if !trace.Has([]trace.Trace{none}, empty) || !trace.Has([]trace.Trace{empty}, none) {
		t.Error("R3: Has tells no actions and an empty list of them apart")
	}
}

func TestSetOfFew(t *testing.T) {
	if got := trace.Set(nil); len(got) != 0 {
		t.Errorf("P2.1: Set of none = %v", got)
	}
	if got := trace.Set([]trace.Trace{}); len(got) != 0 {
		t.Errorf("P2.1: Set of an empty list = %v", got)
	}
	for _, x := range rising() {
		for _, times := range []int{1, 2, 3, 50} {
			if got := trace.Set(slices.Repeat([]trace.Trace{x}, times)); !sameList(got, []trace.Trace{x}) {
				t.Errorf("P2.1: Set of %d times %v = %v", times, x, got)
			}
		}
	}
}

func TestSetOfMany(t *testing.T) {
	want := rising()
	back := copied(want)
	slices.Reverse(back)
	if got := trace.Set(back); !sameList(got, want) {
		t.Errorf("P2.1: Set of the falling list = %v", got)
	}
	for by := range 20 {
		many := shuffled(slices.Concat(want, want[by:], want[:by]), by)
		got := trace.Set(many)
		if !sameList(got, want) {
			t.Errorf("P2.1: Set of list %d = %v", by, got)
		}
		if again := trace.Set(got); !sameList(again, want) {
			t.Errorf("P2.1: Set of a set = %v", again)
		}
	}
}

func TestOr(t *testing.T) {
	all := rising()
	for at := range len(all) + 1 {
		for over := range 3 {
			a, b := shuffled(all[:min(at+over, len(all))], at), shuffled(all[at:], at+1)
			if got := trace.Or(a, b); !sameList(got, all) {
				t.Errorf("P2.1: Or, parted at %d, %d in both = %v", at, over, got)
			}
			if got := trace.Or(b, a); !sameList(got, all) {
				t.Errorf("P2.1: Or the other way round, parted at %d = %v", at, got)
			}
		}
	}
	if got := trace.Or(nil, nil); len(got) != 0 {
		t.Errorf("P2.1: Or of none = %v", got)
	}
	if got := trace.Or(all, all); !sameList(got, all) {
		t.Errorf("P2.1: Or of the same twice = %v", got)
	}
}

func TestHas(t *testing.T) {
	all := shuffled(rising(), 3)
	for k, x := range all {
		if !trace.Has(all, x) || !trace.Has([]trace.Trace{x}, x) {
			t.Errorf("P2.1: Has misses %v", x)
		}
		if others := slices.Concat(all[:k], all[k+1:]); trace.Has(others, x) {
			t.Errorf("P2.1: Has finds %v where it is not", x)
		}
		if trace.Has(nil, x) || trace.Has([]trace.Trace{}, x) {
			t.Errorf("P2.1: Has finds %v in nothing", x)
		}
	}
}

func TestThen(t *testing.T) {
	for _, p := range few() {
		for _, q := range few() {
			want := p
			if p.End == api.Tick {
				want = trace.Trace{A: letters(strings.Join(p.A, "") + strings.Join(q.A, "")), End: q.End}
			}
			if got := trace.Then(p, q); !same(got, want) {
				t.Errorf("P2.2: Then(%v, %v) = %v, want %v", p, q, got, want)
			}
		}
	}
}

func TestThenOfThree(t *testing.T) {
	for _, p := range few() {
		for _, q := range few() {
			for _, r := range few() {
				left := trace.Then(trace.Then(p, q), r)
				right := trace.Then(p, trace.Then(q, r))
				if !same(left, right) {
					t.Fatalf("P2.3: %v, %v, %v: %v from the left, %v from the right", p, q, r, left, right)
				}
			}
		}
	}
}

func TestPar(t *testing.T) {
	for _, p := range few() {
		for _, q := range few() {
			var want []trace.Trace
			for _, row := range mixedByHand(p.A, q.A) {
				want = append(want, trace.Trace{A: row, End: sign.Both(p.End, q.End)})
			}
			got := trace.Par(p, q)
			if !sameList(got, want) {
				t.Errorf("P2.2: Par(%v, %v) = %v, want %v", p, q, got, want)
			}
			if back := trace.Par(q, p); !sameList(got, back) {
				t.Errorf("P2.3: Par(%v, %v) = %v, the other way round %v", p, q, got, back)
			}
			if set := trace.Set(got); !sameList(got, set) {
				t.Errorf("P2.2: Par(%v, %v) = %v is no set", p, q, got)
			}
		}
	}
}

func TestParEnds(t *testing.T) {
	for _, c := range []struct{ p, q, want int }{
		{api.Tick, api.Tick, api.Tick}, {api.Tick, api.Query, api.Query}, {api.Query, api.Bang, api.Bang}, {api.Bang, api.Tick, api.Bang},
		{0, api.Bang, 0}, {api.Tick, 4, 0}, {-1, -1, 0}, {math.MaxInt, api.Query, 0},
	} {
		for _, got := range [][]trace.Trace{trace.Par(of("a", c.p), of("b", c.q)), trace.Par(of("a", c.q), of("b", c.p))} {
			if !sameList(got, []trace.Trace{of("ab", c.want), of("ba", c.want)}) {
				t.Errorf("P2.2: Par of Ends %d and %d = %v", c.p, c.q, got)
			}
		}
		if got := trace.Par(of("", c.p), of("", c.q)); !sameList(got, []trace.Trace{of("", c.want)}) {
			t.Errorf("P2.2: Par of no actions, of Ends %d and %d = %v", c.p, c.q, got)
		}
	}
}

func TestText(t *testing.T) {
	for _, c := range []struct {
		t    trace.Trace
		want string
	}{
		{of("", api.Tick), "ok"}, {of("", api.Bang), "!"}, {of("", api.Query), "?"}, {of("", 0), ""}, {of("", 4), ""},
		{of("a", api.Tick), "a ok"}, {of("ab", api.Bang), "a b !"}, {of("aba", api.Query), "a b a ?"},
		{of("a", 0), "a "}, {of("ab", -1), "a b "},
		{trace.Trace{A: []string{"pay", "ship"}, End: api.Tick}, "pay ship ok"},
		{trace.Trace{A: []string{}, End: api.Tick}, "ok"},
		{trace.Trace{A: []string{""}, End: api.Tick}, " ok"},
		{trace.Trace{A: []string{"\xff", ""}, End: api.Bang}, "\xff  !"},
	} {
		if got := trace.Text(c.t); got != c.want {
			t.Errorf("P2.2: Text(%v) = %q, want %q", c.t, got, c.want)
		}
	}
}
