package refuse_test

import (
	"slices"
	"strings"
	"testing"

	"redress/api"
	"redress/mean"
	"redress/parse"
	"redress/refuse"
	"redress/row"
	"redress/sort"
	"redress/trace"
)

var someTerms = []string{
	"a", "a ; b", "a | b ; a", "a + throw", "skip", "throw > a", "[a/b]", "[a/b ; c/d] | e", "[a/b ; throww]", "[(a + b)/(c > d) | a/a]", "(a + throw) > [b/c ; [a/b]/d]",
}

func read(t *testing.T, s string) []api.Node {
	t.Helper()
	l, _, e := parse.Parse(s)
	if e != api.OK {
		t.Fatalf("%q is no term: %d", s, e)
	}
	return l
}

// trees is of all sorts: terms, what goes on, and parts of both.
func trees(t *testing.T) [][]api.Node {
	var l [][]api.Node
	for _, s := range someTerms {
		l = append(l, read(t, s))
	}
	for k := 0; k < len(l); k++ {
		l = append(l, row.Kids(l[k])...)
	}
	over, end := api.Node{Kind: api.Over, Sign: api.Bang}, api.Node{Kind: api.End, Sign: api.Bang}
	going, stack := api.Node{Kind: api.Going}, api.Node{Kind: api.Stack}
	return append(l,
		row.Make(seq, []api.Node{over}, []api.Node{a}),
		row.Make(par, []api.Node{seq, a, b}, []api.Node{over}),
		row.Make(end, []api.Node{seq, a, b}),
		row.Make(going, []api.Node{seq, a, b}, []api.Node{a}),
		row.Make(stack, []api.Node{pair, a, b}, []api.Node{seq, a, skip}),
		row.Make(block, []api.Node{end, a}),
	)
}

func TestTheSortStays(t *testing.T) {
	seen := map[int]int{}
	for _, l := range trees(t) {
		was := sort.Of(l)
		seen[was]++
		for _, names := range [][]string{nil, {"a"}, {"b", "c"}, {"a", "b", "c", "d", "e"}} {
			got := refuse.Rewrite(l, names...)
			if is := sort.Of(got); is != was {
				t.Errorf("P8.3: %v is of sort %d, but %v of sort %d", l, was, got, is)
			}
			if !slices.Equal(sort.Acts(got), sort.Acts(l)) {
				t.Errorf("P8.3: the Acts of %v are not those of %v", got, l)
			}
		}
		for at := range l {
			if got := refuse.Mark(l, at); sort.Of(got) != was {
				t.Errorf("P8.3: %v is of sort %d, but %v of sort %d", l, was, got, sort.Of(got))
			}
		}
	}
	for s := sort.Plain; s <= sort.PairedOn; s++ {
		if seen[s] < 2 {
			t.Errorf("only %d trees of sort %d were tried", seen[s], s)
		}
	}
}

// inARow is so many Acts, one behind the other: it has one Seq fewer than Acts.
func inARow(count int) []api.Node {
	made := []api.Node{a}
	for range count - 1 {
		made = row.Make(seq, made, []api.Node{a})
	}
	return made
}

func TestTooLongForATree(t *testing.T) {
	fits := row.Make(block, row.Make(pair, inARow(49), []api.Node{seq, skip, skip}))
	if got := refuse.Rewrite(fits, "a"); len(got) != api.MaxRow || !sort.Term(got) {
		t.Errorf("P8.3: a term of %d nodes, rewritten, is %d nodes of sort %d", len(fits), len(got), sort.Of(got))
	}
	fits = row.Make(seq, inARow(50), []api.Node{skip})
	got := refuse.Rewrite(fits, "a")
	if !sort.Term(fits) || len(got) != api.MaxRow+1 || sort.Of(got) != sort.None {
		t.Errorf("P8.3: a term of %d nodes, rewritten, is %d nodes of sort %d", len(fits), len(got), sort.Of(got))
	}
	if !slices.Equal(refuse.Strip(got), fits) {
		t.Errorf("P8.3: Strip of a row that is too long for a tree is not what was rewritten")
	}
}

func TestRewrittenTwice(t *testing.T) {
	for _, l := range trees(t) {
		once := refuse.Rewrite(l, "a", "c")
		twice := refuse.Rewrite(once, "a", "c")
		acts := len(refuse.Places(l, "a")) + len(refuse.Places(l, "c"))
		was := row.Count(l, api.Throw)
		if row.Count(once, api.Throw) != was+acts || row.Count(twice, api.Throw) != was+2*acts || len(twice) != len(l)+4*acts {
			t.Errorf("P8.3: %v, with %d Acts that may be refused, is rewritten to %v, and to %v", l, acts, once, twice)
		}
		if row.Count(l, api.Alt) == 0 && !slices.Equal(refuse.Strip(refuse.Strip(twice)), l) {
			t.Errorf("P8.3: %v rewritten twice and stripped twice is %v", l, refuse.Strip(refuse.Strip(twice)))
		}
	}
}

func TestStripTakesRewriteBack(t *testing.T) {
	for _, s := range every("ab+!sA", 6) {
		if strings.Contains(s, "+a!") || strings.Contains(s, "+b!") {
			continue
		}
		l := rowOf(s)
		for _, names := range [][]string{nil, {"a"}, {"b"}, {"a", "b"}} {
			if got := refuse.Strip(refuse.Rewrite(l, names...)); !slices.Equal(got, l) {
				t.Fatalf("P8.3: %q rewritten of %q and stripped is %v", s, names, got)
			}
		}
		for at := range l {
			if got := refuse.Strip(refuse.Mark(l, at)); !slices.Equal(got, l) {
				t.Fatalf("P8.3: %q marked at %d and stripped is %v", s, at, got)
			}
		}
	}
}

func TestEachMarkedIsRewritten(t *testing.T) {
	for _, l := range trees(t) {
		marked := l
		places := refuse.Places(l, "a")
		slices.Reverse(places)
		for _, at := range places {
			marked = refuse.Mark(marked, at)
		}
		if got := refuse.Rewrite(l, "a"); !slices.Equal(got, marked) {
			t.Errorf("P8.1: %v rewritten is %v, but each of its Acts marked is %v", l, got, marked)
		}
	}
}

// To be refused is a throw in the place of the Act.
func TestWhatIsMeant(t *testing.T) {
	for _, c := range []struct {
		term, name, text, means string
	}{
		{"a ; b", "b", "a ; (b + throw)", "a !; a b ok"},
		{"a ; b", "a", "(a + throw) ; b", "!; a b ok"},
		{"a > b", "a", "(a + throw) > b", "a ok; b ok"},
		{"[a/b ; c/d]", "c", "[a/b ; (c + throw)/d]", "a b ok; a c ok"},
		{"[a/b ; throww]", "b", "[a/(b + throw) ; throw/skip]", "a !; a b ok"},
		{"a | a ; b", "a", "a + throw | (a + throw) ; b", "!; a !; a a b ok; a b !; a b a ok"},
	} {
		got := refuse.Rewrite(read(t, c.term), c.name)
		if text, is := parse.Print(got); !is || text != c.text {
			t.Errorf("P8.1: %s, of which %s may be refused, is %s, want %s", c.term, c.name, text, c.text)
		}
		all, e := mean.Plain(got)
		var texts []string
		for _, p := range all {
			texts = append(texts, trace.Text(p))
		}
		if means := strings.Join(texts, "; "); e != api.OK || means != c.means {
			t.Errorf("P8.1: %s, of which %s may be refused, means %s, want %s", c.term, c.name, means, c.means)
		}
	}
}
