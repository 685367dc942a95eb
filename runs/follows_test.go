package runs_test

import (
	"slices"
	"strings"
	"testing"

	"redress/api"
	"redress/mean"
	"redress/move"
	"redress/parse"
	"redress/row"
	"redress/runs"
	"redress/settle"
	"redress/sort"
	"redress/step"
	"redress/trace"
)

// chance is a row of numbers that is always the same.
type chance uint32

func (by *chance) below(n int) int {
	*by = *by*1664525 + 1013904223
	return int(*by>>8) % n
}

// X stands for what is plain, and P for what is paired.
var (
	plainly = []string{"a", "b", "yield", "throw", "c", "skip", "(X | X)", "(X ; X)", "(X + throw)", "(X + X)", "(X > X)", "[P]", "[P | throww]", "[P ; throww]", "(X | yield)"}
	pairly  = []string{"a/b", "yieldd", "X/skip", "X/X", "(P ; P)", "(P | P)", "(P + yieldd)", "(P ; throww)", "(P | X/c)"}
)

// tell is a term by chance, so deep at most.
func (by *chance) tell(from []string, deep int) string {
	if deep == 0 {
		from = from[:2]
	}
	var told strings.Builder
	for _, letter := range from[by.below(len(from))] {
		switch letter {
		case 'X':
			told.WriteString(by.tell(plainly, deep-1))
		case 'P':
			told.WriteString(by.tell(pairly, deep-1))
		default:
			told.WriteRune(letter)
		}
	}
	return told.String()
}

// byChance is so many Small rows that come of terms by chance, begun and played on, the shortest ones left out.
func byChance(count int) [][]api.Node {
	by := chance(14)
	var l [][]api.Node
	for len(l) < count {
		term, _, e := parse.Parse(by.tell(plainly[6:], 5))
		if e != api.OK || !mean.Small(term) {
			continue
		}
		r := runs.Play(settle.Begin(term), by.below(30), by.below(30), by.below(30))
		for _, x := range [][]api.Node{settle.Begin(term), r.L} {
			if len(x) > 7 {
				l = append(l, x)
			}
		}
	}
	return l
}

// meansAll holds All of l against its meaning, and tells all.
func meansAll(t *testing.T, l []api.Node) []trace.Trace {
	t.Helper()
	all, e := runs.All(l)
	want, f := mean.Plain(l)
	if e != f || !slices.Equal(texts(all), texts(want)) {
		t.Errorf("P14.4: All(%s) = %v, %d, but it means %v, %d", text(l), texts(all), e, texts(want), f)
	}
	return all
}

func TestEveryTreeComesToWhatItMeans(t *testing.T) {
	for _, l := range slices.Concat(grown(5, leaves, ones, twos), grown(7, []api.Node{a, yield}, []api.Node{block, endBang}, []api.Node{par, pair, going})) {
		if sort.On(l, false) && settle.Settled(l) {
			meansAll(t, l)
		}
	}
}

func TestLongerTreesComeToWhatTheyMean(t *testing.T) {
	blocks, several, long := 0, 0, 0
	for _, l := range byChance(2000) {
		many := len(meansAll(t, l))
		if row.Count(l, api.Block) > 0 && many > 1 {
			blocks++
		}
		if many > 4 {
			several++
		}
		if len(l) > 18 {
			long++
		}
	}
	if blocks < 700 || several < 150 || long < 300 {
		t.Errorf("only %d blocks of several traces, %d rows of many and %d long ones were tried", blocks, several, long)
	}
}

// mayDo tells, by its meaning, whether l may do x.
func mayDo(l []api.Node, x trace.Trace) bool {
	all, _ := mean.Plain(l)
	return trace.Has(all, x)
}

// behind is x without the action that the move m of l does, and what comes of l; false, if x begins with another one.
func behind(l []api.Node, m api.Move, x trace.Trace) ([]api.Node, trace.Trace, bool) {
	next, act, _ := step.Next(l, m)
	if m.How != api.Do {
		return next, x, true
	}
	if len(x.A) == 0 || x.A[0] != act {
		return next, x, false
	}
	return next, trace.Trace{A: x.A[1:], End: x.End}, true
}

// isFirst holds, of picks by which l comes to x, that at each of them no lesser number leads to x as well: by the meaning of what comes of that.
func isFirst(t *testing.T, l []api.Node, x trace.Trace) {
	t.Helper()
	picks, is := runs.Find(l, x)
	if got, ended := runs.Trace(runs.Play(l, picks...)); !is || !ended || trace.Compare(got, x) != 0 {
		t.Errorf("P14.4: by what Find(%s, %s) tells, %v, %v, it comes to %s", text(l), trace.Text(x), picks, is, trace.Text(got))
		return
	}
	now, left := l, x
	for k, n := range picks {
		for lesser, m := range move.Enabled(now)[:n] {
			if next, rest, does := behind(now, m, left); does && mayDo(next, rest) {
				t.Errorf("P14.3: Find(%s, %s) = %v, but at the number %d there is %d", text(l), trace.Text(x), picks, k, lesser)
			}
		}
		now, left, _ = behind(now, move.Enabled(now)[n], left)
	}
	if len(move.Enabled(now)) > 0 {
		t.Errorf("P14.4: Find(%s, %s) = %v, but then there are moves", text(l), trace.Text(x), picks)
	}
}

// some is up to so many of a set of traces, spread over it.
func some(l []trace.Trace, most int) []trace.Trace {
	var x []trace.Trace
	for k := range min(most, len(l)) {
		x = append(x, l[k*len(l)/min(most, len(l))])
	}
	return x
}

func TestFoundInLongerTrees(t *testing.T) {
	for _, l := range byChance(400) {
		all, _ := runs.All(l)
		for _, x := range some(all, 5) {
			isFirst(t, l, x)
			for sign := range signs {
				y := trace.Trace{A: x.A, End: sign}
				if !mayDo(l, y) {
					isNotFound(t, l, y)
				}
			}
			back := slices.Clone(x.A)
			slices.Reverse(back)
			y := trace.Trace{A: back, End: x.End}
			if _, is := runs.Find(l, y); is != mayDo(l, y) {
				t.Errorf("P14.4: Find(%s, %s) = %v, but it means %v", text(l), trace.Text(y), is, !is)
			}
		}
	}
}

// By any picks a term comes to none but what it means, and it ends.
func TestAnyPicksComeToWhatItMeans(t *testing.T) {
	by := chance(3)
	for _, l := range byChance(1000) {
		var picks []int
		for range api.MaxSmall {
			picks = append(picks, by.below(1000)-500)
		}
		if x, ended := runs.Trace(runs.Play(l, picks...)); !ended || !mayDo(l, x) {
			t.Errorf("P14.4: by the picks %v %s comes to %s, %v", picks, text(l), trace.Text(x), ended)
		}
	}
}
