package runs_test

import (
	"math"
	"slices"
	"strings"
	"testing"

	"redress/api"
	"redress/move"
	"redress/parse"
	"redress/runs"
	"redress/settle"
	"redress/trace"
)

// The nodes of rows that no term is.
var (
	a     = api.Node{Kind: api.Act, Name: "a"}
	b     = api.Node{Kind: api.Act, Name: "b"}
	skip  = api.Node{Kind: api.Skip}
	throw = api.Node{Kind: api.Throw}
	yield = api.Node{Kind: api.Yield}
	seq   = api.Node{Kind: api.Seq}
	alt   = api.Node{Kind: api.Alt}
	par   = api.Node{Kind: api.Par}
	hand  = api.Node{Kind: api.Hand}
	block = api.Node{Kind: api.Block}
	pair  = api.Node{Kind: api.Pair}
	going = api.Node{Kind: api.Going}
	stack = api.Node{Kind: api.Stack}

	overOK    = api.Node{Kind: api.Over, Sign: api.Tick}
	overBang  = api.Node{Kind: api.Over, Sign: api.Bang}
	overQuery = api.Node{Kind: api.Over, Sign: api.Query}
	endOK     = api.Node{Kind: api.End, Sign: api.Tick}
	endBang   = api.Node{Kind: api.End, Sign: api.Bang}
	endQuery  = api.Node{Kind: api.End, Sign: api.Query}
)

// signs is the text of each sign, told anew.
var signs = map[int]string{api.Tick: "ok", api.Bang: "!", api.Query: "?"}

// text is a row as words: an Act as its name, an Over as its sign, an End as end- and its sign.
func text(l []api.Node) string {
	kinds := map[int]string{
		api.Skip: "skip", api.Throw: "throw", api.Yield: "yield", api.Seq: "seq", api.Alt: "alt", api.Par: "par", api.Hand: "hand",
		api.Block: "block", api.Pair: "pair", api.Going: "going", api.Stack: "stack", api.End: "end-",
	}
	var words []string
	for _, n := range l {
		words = append(words, kinds[n.Kind]+n.Name+signs[n.Sign])
	}
	return strings.Join(words, " ")
}

// begun is the term of a text, begun.
func begun(t *testing.T, s string) []api.Node {
	t.Helper()
	l, _, e := parse.Parse(s)
	if e != api.OK {
		t.Fatalf("%s is no term: %d", s, e)
	}
	return settle.Begin(l)
}

// traceOf is the trace of a text.
func traceOf(s string) trace.Trace {
	words := strings.Fields(s)
	last := len(words) - 1
	for sign, word := range signs {
		if word == words[last] {
			return trace.Trace{A: words[:last], End: sign}
		}
	}
	panic("no trace: " + s)
}

// texts is traces as texts.
func texts(l []trace.Trace) []string {
	var told []string
	for _, x := range l {
		told = append(told, trace.Text(x))
	}
	return told
}

// isRun holds what Play and Trace tell against a row, actions and a number.
func isRun(t *testing.T, l []api.Node, picks []int, row, did string, many int) {
	t.Helper()
	r := runs.Play(l, picks...)
	if text(r.L) != row || strings.Join(r.A, " ") != did || r.N != many {
		t.Errorf("P14.1: Play(%s, %v) = %s, %v, %d, want %s, %s, %d", text(l), picks, text(r.L), r.A, r.N, row, did, many)
	}
	want := ""
	if row == "ok" || row == "!" || row == "?" {
		want = strings.TrimSpace(did + " " + row)
	}
	got, ended := runs.Trace(r)
	if ended != (want != "") || ended && trace.Text(got) != want || !ended && (len(got.A) != 0 || got.End != 0) {
		t.Errorf("P14.1: Trace of Play(%s, %v) = %v, %v, want %s", text(l), picks, got, ended, want)
	}
}

func TestPlay(t *testing.T) {
	for _, c := range []struct {
		term     string
		picks    []int
		row, did string
		many     int
	}{
		{"a ; b", nil, "seq a b", "", 0},
		{"a ; b", []int{0}, "b", "a", 1},
		{"a ; b", []int{0, 0}, "ok", "a b", 2},
		{"a ; b", []int{7, -7}, "ok", "a b", 2},
		{"a | b", []int{0}, "par ok b", "a", 1},
		{"a | b", []int{1}, "par a ok", "b", 1},
		{"a | b", []int{-1}, "par a ok", "b", 1},
		{"a | b", []int{-2}, "par ok b", "a", 1},
		{"a | b", []int{3, 3}, "ok", "b a", 2},
		{"a | b", []int{math.MaxInt}, "par a ok", "b", 1},
		{"a | b", []int{math.MinInt}, "par ok b", "a", 1},
		{"a | a", []int{1, 0}, "ok", "a a", 2},
		{"a + b", []int{0}, "a", "", 1},
		{"a + b", []int{1}, "b", "", 1},
		{"a + b", []int{1, 1}, "ok", "b", 2},
		{"yield ; a", []int{0}, "a", "", 1},
		{"yield ; a", []int{1}, "?", "", 1},
		{"a | yield", []int{0, 1}, "?", "a", 2},
		{"throw > a", []int{0}, "ok", "a", 1},
		{"a ; throw", []int{0}, "!", "a", 1},
		{"[a/b ; throww]", []int{0}, "block seq going a b pair throw skip", "", 1},
		{"[a/b ; throww]", []int{0, 0}, "block stack pair throw skip b", "a", 2},
		{"[a/b ; throww]", []int{0, 0, 0}, "b", "a", 3},
		{"[a/b ; throww]", []int{0, 0, 0, 0}, "ok", "a b", 4},
		{"[a/b | throww]", []int{1}, "block par pair a b end-! skip", "", 1},
		{"[a/b | throww]", []int{1, 1}, "ok", "", 2},
		{"[a/b | throww]", []int{1, 0, 0, 0}, "ok", "a b", 4},
		{"[a/b | c/d]", []int{0, 1, 1, 0}, "ok", "c a", 4},
	} {
		isRun(t, begun(t, c.term), c.picks, c.row, c.did, c.many)
	}
}

// If there is no move, all ends there, whatever is picked.
func TestPlayBeyondTheEnd(t *testing.T) {
	more := slices.Repeat([]int{0, 1, -1, math.MaxInt, math.MinInt}, 1000)
	for _, s := range []string{"skip", "throw", "skip ; throw > skip"} {
		l := begun(t, s)
		isRun(t, l, more, text(l), "", 0)
	}
	isRun(t, begun(t, "a ; b"), append([]int{0, 0}, more...), "ok", "a b", 2)
	isRun(t, begun(t, "yield | a"), append([]int{1, 0}, more...), "?", "a", 2)
	isRun(t, begun(t, "[a/b | throww]"), append([]int{1, 1}, more...), "ok", "", 2)
}

// What is paired goes on, too; what is not settled, or no tree, stays what it is.
func TestPlayOfWhatIsNoTerm(t *testing.T) {
	isRun(t, []api.Node{pair, a, b}, []int{0}, "going a b", "", 1)
	isRun(t, []api.Node{pair, a, b}, []int{1, 0}, "end-? skip", "", 1)
	isRun(t, []api.Node{pair, a, b}, []int{0, 0, 0}, "end-ok b", "a", 2)
	isRun(t, []api.Node{stack, pair, a, b, yield}, []int{0, 0}, "end-ok seq b yield", "a", 2)
	for _, l := range [][]api.Node{
		nil, {skip}, {throw}, {endBang, a}, {overQuery}, {block, endQuery, a},
		{seq, skip, a}, {par, a, skip}, {seq, overOK, a}, {block, endBang, a}, {par, overOK, overOK},
		{seq, a}, {a, a}, {seq}, {pair, a}, {api.Node{}, a}, {{Kind: api.Act}}, {{Kind: api.Yield, Sign: api.Tick}}, {{Kind: api.Act, Name: "skip"}}, {seq, pair, a, b, a}, {hand, a, overOK},
		slices.Concat(slices.Repeat([]api.Node{par}, 100), slices.Repeat([]api.Node{a}, 101)),
	} {
		for _, picks := range [][]int{nil, {0}, {1, 0}, {-1, 5, 0}} {
			isRun(t, l, picks, text(l), "", 0)
			if r := runs.Play(l, picks...); !slices.Equal(r.L, l) {
				t.Errorf("P14.1: Play(%v, %v) begins with %v", l, picks, r.L)
			}
		}
	}
}

// Trace looks at a Run as it is, whoever made it.
func TestTrace(t *testing.T) {
	did := []string{"a", "b"}
	for _, sign := range []int{api.Tick, api.Bang, api.Query, 0, -1, 4, math.MaxInt} {
		l := []api.Node{{Kind: api.Over, Sign: sign}}
		for _, r := range []runs.Run{{L: l, A: did}, {L: l, A: did, N: -3}, {L: l}, {L: l, A: []string{"", "Skip"}, N: 1}} {
			got, ended := runs.Trace(r)
			if !ended || !slices.Equal(got.A, r.A) || got.End != sign {
				t.Errorf("P14.1: Trace(%v) = %v, %v", r, got, ended)
			}
		}
	}
	for _, l := range [][]api.Node{nil, {}, {skip}, {throw}, {a}, {endOK}, {endOK, skip}, {overOK, overOK}, {par, overOK, overOK}, {seq, overBang, a}, {{Kind: 99, Sign: api.Tick}}} {
		if got, ended := runs.Trace(runs.Run{L: l, A: did, N: 2}); ended || len(got.A) != 0 || got.End != 0 {
			t.Errorf("P14.1: Trace of %s, which has not ended, is %v, %v", text(l), got, ended)
		}
	}
}

// means is terms, and all that they may come to.
var means = map[string]string{
	"a":     "a ok",
	"skip":  "ok",
	"throw": "!",
	"yield": "ok, ?",
	// One behind the other, side by side, chosen, handed over.
	"a ; b": "a b ok", "a ; throw ; b": "a !", "a ; yield ; b": "a ?, a b ok",
	"a | b ; c": "a b c ok, b a c ok, b c a ok",
	"a | throw": "a !", "yield | throw": "!", "yield | yield": "ok, ?", "a | a": "a a ok", "a | yield": "a ok, a ?",
	"a + b": "a ok, b ok", "a + throw": "!, a ok", "a + a": "a ok", "(a + b) ; (c + skip)": "a ok, a c ok, b ok, b c ok",
	"(a + throw) > c": "a ok, c ok", "a > b": "a ok", "(a ; throw) > b": "a b ok", "yield > a": "ok, ?", "(a | throw) > b": "a b ok",
	// In a block.
	"[a/b]": "a ok", "[a/b ; throww]": "a b ok", "[yieldd]": "ok", "[yieldd ; a/b]": "a ok", "[throww]": "ok",
	"[a/b ; c/d ; throww]": "a c d b ok", "[a/b | throww]": "ok, a b ok", "[a/throw | throww]": "ok, a !", "[a/yield ; throww]": "a ok, a ?",
	"[a/b | c/d]": "a c ok, c a ok", "[a/b + c/d]": "a ok, c ok", "[(a + throw)/b]": "ok, a ok", "[(a/b ; c/d) | throww]": "ok, a b ok, a c d b ok",
	"[(yieldd ; a/b) | throww]": "ok, a b ok", "[a/b | yieldd] | c": "a c ok, c a ok",
}

func TestAll(t *testing.T) {
	for term, want := range means {
		got, e := runs.All(begun(t, term))
		if told := strings.Join(texts(got), ", "); e != api.OK || told != want {
			t.Errorf("P14.2: All(%s) = %s, %d, want %s", term, told, e, want)
		}
	}
}

// What goes on plain, and is no term.
func TestAllOfWhatGoesOn(t *testing.T) {
	for _, c := range []struct {
		l    []api.Node
		want string
	}{
		{[]api.Node{overOK}, "ok"},
		{[]api.Node{overBang}, "!"},
		{[]api.Node{overQuery}, "?"},
		{[]api.Node{par, a, overQuery}, "a ?"},
		{[]api.Node{par, yield, overBang}, "!"},
		{[]api.Node{block, going, a, b}, "a ok"},
		{[]api.Node{block, stack, pair, throw, skip, b}, "b ok"},
		{[]api.Node{block, par, pair, a, b, endBang, yield}, "ok, ?, a b ok, a b ?"},
		{[]api.Node{block, par, pair, a, b, endOK, b}, "a ok"},
		{[]api.Node{block, par, pair, throw, a, endOK, b}, "b ok"},
		// It has not ended, but has no move.
		{[]api.Node{block, endQuery, a}, ""},
		{[]api.Node{seq, block, endQuery, a, b}, ""},
		{[]api.Node{par, a, block, endQuery, a}, ""},
	} {
		got, e := runs.All(c.l)
		if told := strings.Join(texts(got), ", "); e != api.OK || told != c.want {
			t.Errorf("P14.2: All(%s) = %s, %d, want %s", text(c.l), told, e, c.want)
		}
	}
}

// isFound holds what Find tells against picks.
func isFound(t *testing.T, l []api.Node, s string, want ...int) {
	t.Helper()
	if got, is := runs.Find(l, traceOf(s)); !is || !slices.Equal(got, want) {
		t.Errorf("P14.3: Find(%s, %s) = %v, %v, want %v", text(l), s, got, is, want)
	}
}

// isNotFound holds that Find finds none.
func isNotFound(t *testing.T, l []api.Node, x trace.Trace) {
	t.Helper()
	if got, is := runs.Find(l, x); is || len(got) != 0 {
		t.Errorf("P14.3: Find(%s, %v) = %v, %v, want none", text(l), x, got, is)
	}
}

func TestFind(t *testing.T) {
	for _, c := range []struct {
		term, trace string
		want        []int
	}{
		{"skip", "ok", nil},
		{"a ; b", "a b ok", []int{0, 0}},
		{"a | b", "a b ok", []int{0, 0}},
		{"a | b", "b a ok", []int{1, 0}},
		{"a | a", "a a ok", []int{0, 0}},
		{"a | b | c", "c b a ok", []int{2, 1, 0}},
		{"a | a | yield", "a a ?", []int{0, 0, 1}},
		{"yield | yield", "ok", []int{0, 0}},
		{"yield | yield", "?", []int{0, 1}},
		{"yield | a", "a ?", []int{1, 0}},
		{"yield ; yield", "?", []int{0, 1}},
		{"yield + throw", "!", []int{1}},
		{"skip + yield", "?", []int{1, 1}},
		{"a + a", "a ok", []int{0, 0}},
		{"(a + b) | (a + b)", "a b ok", []int{0, 0, 1, 0}},
		{"(a + b) | (a + b)", "b a ok", []int{0, 2, 1, 0}},
		{"(a + skip ; b) | b", "a b ok", []int{0, 0, 0}},
		{"(a + skip ; b) | b", "b b ok", []int{1, 0, 0}},
		{"[a/b | throww]", "ok", []int{1, 1}},
		{"[a/b | throww]", "a b ok", []int{0, 0, 0, 0}},
		{"[a/b | c/d | throww]", "c d ok", []int{1, 1, 1, 1, 0}},
	} {
		isFound(t, begun(t, c.term), c.trace, c.want...)
	}
	isFound(t, []api.Node{overBang}, "!")
	isFound(t, []api.Node{par, a, overQuery}, "a ?", 0)
	isFound(t, []api.Node{block, par, pair, a, b, endBang, yield}, "?", 1, 1)
}

func TestFindNone(t *testing.T) {
	for term, told := range means {
		l := begun(t, term)
		for _, s := range strings.Split(told, ", ") {
			x := traceOf(s)
			for _, other := range []trace.Trace{
				{A: x.A}, {A: x.A, End: -1}, {A: x.A, End: 4}, {A: x.A, End: math.MinInt}, {A: append(slices.Clone(x.A), "z"), End: x.End}, {A: append([]string{""}, x.A...), End: x.End}, {A: append([]string{"skip"}, x.A...), End: x.End},
				{A: append(slices.Clone(x.A), slices.Repeat([]string{"a"}, 1000)...), End: x.End},
			} {
				isNotFound(t, l, other)
			}
		}
	}
	isNotFound(t, begun(t, "a | b"), traceOf("a ok"))
	isNotFound(t, begun(t, "a | b"), traceOf("ok"))
	isNotFound(t, begun(t, "a ; b"), traceOf("b a ok"))
	isNotFound(t, begun(t, "a ; b"), traceOf("a b !"))
	isNotFound(t, []api.Node{block, endQuery, a}, traceOf("ok"))
	isNotFound(t, []api.Node{block, endQuery, a}, traceOf("?"))
}

// A row of picks is of numbers below those of the moves there are then: the numbers that Pick takes beside them are not told.
func TestFoundNumbersAreThoseOfMoves(t *testing.T) {
	for term, told := range means {
		for _, s := range strings.Split(told, ", ") {
			l := begun(t, term)
			picks, is := runs.Find(l, traceOf(s))
			if !is {
				t.Errorf("P14.3: Find(%s, %s) finds none", term, s)
			}
			for k, n := range picks {
				if many := len(move.Enabled(runs.Play(l, picks[:k]...).L)); n < 0 || n >= many {
					t.Errorf("P14.3: Find(%s, %s) = %v, but there are %d moves at the number %d", term, s, picks, many, k)
				}
			}
			r := runs.Play(l, picks...)
			if x, ended := runs.Trace(r); !ended || trace.Text(x) != s || r.N != len(picks) {
				t.Errorf("P14.3: by what Find(%s, %s) tells, %v, it comes to %s by %d moves", term, s, picks, trace.Text(x), r.N)
			}
		}
	}
}
