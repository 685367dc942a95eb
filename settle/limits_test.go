package settle_test

import (
	"slices"
	"strings"
	"testing"

	"redress/api"
	"redress/parse"
	"redress/settle"
	"redress/sort"
)

// chain is a plain tree of so many nodes, of which a comes: skip, behind skip, .., behind a. What has an even number of nodes ends in a block.
func chain(long int) (words, comes string) {
	comes = "a"
	if long%2 == 0 {
		comes = "block pair a b"
	}
	return times("seq skip", (long-len(strings.Fields(comes)))/2) + " " + comes, comes
}

func TestAsLongAsARowMayBe(t *testing.T) {
	for long := api.MaxRow - 3; long <= api.MaxRow+3; long++ {
		words, want := chain(long)
		if long > api.MaxRow {
			want = ""
		}
		if got := len(tree(words)); got != long {
			t.Fatalf("a row that should have %d nodes has %d", long, got)
		}
		comesOf(t, words, want)
	}
}

// Where as much comes of a tree as it was.
func TestWhatComesIsAsLongAsARowMayBe(t *testing.T) {
	first, _ := chain(99)
	for _, long := range []int{97, 98, 99, 100, 101, 102} {
		second, _ := chain(long)
		words, want := "stack end-! "+first+" "+second, "end-! seq "+first+" "+second
		if 2+99+long > api.MaxRow {
			want = ""
		}
		comesOf(t, words, want)
	}
	wide := times("par", 99) + times(" a", 100)
	comesOf(t, wide, wide)
	comesOf(t, "par "+wide+" a", "")
	comesOf(t, times("par", 99)+times(" skip", 100), "ok")
	comesOf(t, times("par", 99)+times(" skip", 99)+" throw", "!")
	comesOf(t, times("stack", 50)+" end-? a"+times(" b", 50), "end-? "+times("seq", 50)+" a"+times(" b", 50))
	comesOf(t, times("stack", 66)+" going skip a"+times(" b", 66), "end-ok "+times("seq", 66)+" a"+times(" b", 66))
}

func TestAsDeepAsARowMayBe(t *testing.T) {
	nest := func(inside string) string { return times("block going", 66) + " " + inside + times(" b", 66) }
	comesOf(t, nest("skip"), "ok")
	comesOf(t, nest("throw"), "ok")
	comesOf(t, nest("a"), nest("a"))
	comesOf(t, nest("?"), times("block going", 65)+" block end-? skip"+times(" b", 65))
	// As deep by Seqs: what has not ended holds all that is behind it.
	for from, want := range map[string]string{"skip": "a", "throw": "!", "seq b throw": times("seq", 98) + " seq b throw" + times(" skip", 97) + " a"} {
		comesOf(t, times("seq", 98)+" "+from+times(" skip", 97)+" a", want)
	}
}

func TestBeginsAsLongAsATermMayBe(t *testing.T) {
	for long := 5; long <= api.MaxNodes+6; long++ {
		words := "seq skip " + flat(long-2)
		l := tree(words)
		if len(l) != long || !sort.Term(l) {
			t.Fatalf("%s is no term of %d nodes", words, long)
		}
		want := flat(long - 2)
		if got := settle.Settle(l); text(got) != want {
			t.Errorf("P10.1: Settle(%s) = %s, want %s", words, text(got), want)
		}
		if long > api.MaxNodes {
			want = ""
		}
		if got := settle.Begin(l); text(got) != want {
			t.Errorf("P10.2: Begin of a term of %d nodes = %s, want %s", long, text(got), want)
		}
	}
}

// flat is a term of so many nodes, no deeper than it needs to be, of which nothing else comes. There is none of 2 nodes.
func flat(long int) string {
	switch {
	case long == 1:
		return "a"
	case long%2 == 0 && long < 8:
		return "block pair " + flat(long-3) + " b"
	}
	// An odd number, so that the other one is not 2.
	first := (long-1)/2 | 1
	return "par " + flat(first) + " " + flat(long-1-first)
}

func TestBeginsAsDeepAsATermMayBe(t *testing.T) {
	for deep := 2; deep <= api.MaxDepth+4; deep++ {
		for _, words := range []string{
			times("seq skip", deep-1) + " a",
			times("hand", deep-1) + " throw" + times(" skip", deep-1),
		} {
			l := tree(words)
			want := settle.Settle(l)
			if len(want) != 1 {
				t.Fatalf("P10.1: Settle(%s) = %s", words, text(want))
			}
			if deep > api.MaxDepth {
				want = nil
			}
			if got := settle.Begin(l); !slices.Equal(got, want) {
				t.Errorf("P10.2: Begin of a term that is %d deep = %s, want %s", deep, text(got), text(want))
			}
		}
	}
}

// What has begun is begun anew only as long as it is still a term.
func TestBeginsAnewOnlyATerm(t *testing.T) {
	for _, s := range []string{"skip ; a", "[a/b ; throww] | skip", "throw > (a + b)"} {
		l, _, _ := parse.Parse(s)
		begun := settle.Begin(l)
		if len(begun) == 0 || !settle.Settled(begun) {
			t.Errorf("P10.2: Begin(%s) = %s", s, text(begun))
		}
		if again := settle.Begin(begun); sort.Term(begun) != (len(again) > 0) {
			t.Errorf("P10.2: Begin of %s, which goes on, = %s", text(begun), text(again))
		}
	}
}

// Far longer and deeper than any row may be: that none comes of it is told quickly.
func TestLongRows(t *testing.T) {
	deep := 1 << 16
	for _, words := range []string{
		times("seq skip", deep) + " a", times("seq", deep) + times(" skip", deep+1), times("block going", deep) + " skip" + times(" b", deep),
		times("stack", deep) + " end-ok a" + times(" b", deep), times("par", deep), times("ok", deep), times("skip", deep),
	} {
		l := tree(words)
		s, is := settle.Ended(l)
		if got := settle.Settle(l); len(got) > 0 || settle.Settled(l) || len(settle.Begin(l)) > 0 || s != 0 || is {
			t.Errorf("P10.1, P10.2: of a row of %d nodes, %.20s.., comes %s; Settled: %v; Ended: %d, %v", len(l), words, text(got), settle.Settled(l), s, is)
		}
	}
}
