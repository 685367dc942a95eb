package settle_test

import (
	"slices"
	"strings"
	"testing"

	"redress/api"
	"redress/mean"
	"redress/row"
	"redress/settle"
	"redress/sort"
	"redress/trace"
)

// meaning is all that a tree may do, or all its pairs, as a text.
func meaning(t *testing.T, l []api.Node) string {
	t.Helper()
	var told []string
	e := api.OK
	if sort.On(l, false) {
		var does []trace.Trace
		does, e = mean.Plain(l)
		for _, x := range does {
			told = append(told, trace.Text(x))
		}
	} else {
		var pairs []mean.Pair
		pairs, e = mean.Paired(l)
		for _, x := range pairs {
			told = append(told, trace.Text(x.P)+" / "+trace.Text(x.Q))
		}
	}
	if e != api.OK {
		t.Fatalf("P10.3: the meaning of %s is not told: %d", text(l), e)
	}
	return strings.Join(told, "; ")
}

// meansTheSame holds what comes of a tree against that tree.
func meansTheSame(t *testing.T, l []api.Node) {
	t.Helper()
	got := settle.Settle(l)
	if !settle.Settled(got) || !slices.Equal(settle.Settle(got), got) {
		t.Errorf("P10.3: Settle(%s) = %s, of which comes %s", text(l), text(got), text(settle.Settle(got)))
	}
	if len(got) > len(l) {
		t.Errorf("P10.1: Settle(%s) = %s is longer than it was", text(l), text(got))
	}
	for _, paired := range []bool{false, true} {
		if sort.On(got, paired) != sort.On(l, paired) {
			t.Errorf("P10.3: Settle(%s) = %s is of another kind", text(l), text(got))
		}
	}
	if !mean.Small(l) {
		return
	}
	if was, is := meaning(t, l), meaning(t, got); was != is {
		t.Errorf("P10.3: Settle(%s) = %s means %s, not %s", text(l), text(got), is, was)
	}
}

func TestEveryTreeMeansTheSame(t *testing.T) {
	for _, words := range everyTree() {
		meansTheSame(t, tree(words))
	}
}

func TestLongerTreesMeanTheSame(t *testing.T) {
	small := 0
	for _, words := range slices.Concat(byChance(2000, 22), byChance(100, api.MaxRow)) {
		l := tree(words)
		// Many Acts side by side have more traces than a test has time for.
		if len(l) > api.MaxRow || mean.Small(l) && row.Count(l, api.Act) > 4 {
			continue
		}
		if mean.Small(l) {
			small++
		}
		meansTheSame(t, l)
	}
	if small < 500 {
		t.Errorf("of only %d longer trees the meaning was held against that of what comes", small)
	}
}

// What has ended does nothing more, and ends by the sign that is told.
func TestEndedMeansItsSign(t *testing.T) {
	ended := 0
	for _, words := range grown(5, []string{"a", "skip", "throw", "!", "?"}, ones) {
		got := settle.Settle(tree(words))
		s, is := settle.Ended(got)
		if !is {
			continue
		}
		ended++
		does, e := mean.Plain(tree(words))
		if e != api.OK || len(does) != 1 || len(does[0].A) > 0 || does[0].End != s {
			t.Errorf("P10.2, P10.3: of %s comes %s, but it means %s", words, text(got), meaning(t, tree(words)))
		}
	}
	if ended < 500 {
		t.Errorf("only %d trees have ended", ended)
	}
}
