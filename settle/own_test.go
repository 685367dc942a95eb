package settle_test

import (
	"slices"
	"testing"

	"redress/api"
	"redress/settle"
)

// Of each rule, and of trees of which nothing else comes.
var shared = []string{
	"", "a", "ok", "skip", "throw", "yield", "seq a b", "seq skip a", "seq skip seq a b", "seq ? a", "hand throw alt a b", "hand skip a", "alt skip a", "par a b", "par skip a", "par skip throw",
	"block pair a b", "block end-! seq a b", "block end-ok a", "block end-? a", "going ok seq a b", "going throw b", "going a b", "pair a skip",
	"seq end-ok a pair b c", "seq end-! seq a b pair c d", "par end-ok a end-? b", "stack end-ok a b", "stack pair a b c", "end-! skip", "seq a", "seq ok ok", "block stack going throw a seq b c seq d e",
}

var spare = api.Node{Kind: api.Yield, Name: "spare", Sign: 5}

// calls is what is told by all calls that tell a row.
func calls(l []api.Node) [][]api.Node {
	return [][]api.Node{settle.Settle(l), settle.Begin(l)}
}

func spoil(l []api.Node) {
	l = l[:cap(l)]
	for k := range l {
		l[k] = spare
	}
}

func TestTheRowStaysAsItIs(t *testing.T) {
	for _, words := range shared {
		was := tree(words)
		full := append(slices.Clone(was), spare, spare)
		kept := slices.Clone(full)
		l := full[:len(was)]
		calls(l)
		settle.Settled(l)
		settle.Ended(l)
		if !slices.Equal(full, kept) {
			t.Errorf("R5: %s was changed to %v", words, full)
		}
	}
}

func TestWhatIsToldIsTheCallersOwn(t *testing.T) {
	for _, words := range shared {
		full := append(tree(words), spare, spare)
		l := full[: len(full)-2 : len(full)]
		kept := slices.Clone(full)
		want := calls(tree(words))
		told, again := calls(l), calls(l)
		// What was handed in is written into.
		spoil(full)
		for k := range told {
			if !slices.Equal(told[k], want[k]) {
				t.Errorf("R6: what is told of %s, %v, changed with it to %v", words, want[k], told[k])
			}
		}
		// What is told is written into.
		copy(full, kept)
		for k := range told {
			spoil(told[k])
		}
		if !slices.Equal(full, kept) {
			t.Errorf("R6: to write into what is told of %s changed it to %v", words, full)
		}
		for k := range again {
			if !slices.Equal(again[k], want[k]) {
				t.Errorf("R6: to write into what is told of %s changed what was told ahead to %v", words, again[k])
			}
		}
		if now := calls(l); !slices.EqualFunc(now, want, slices.Equal[[]api.Node]) {
			t.Errorf("R6, R7: of %s another thing is told the second time: %v, not %v", words, now, want)
		}
	}
}

func TestToldTheSame(t *testing.T) {
	for _, words := range shared {
		l := tree(words)
		s, is := settle.Ended(l)
		settled := settle.Settled(l)
		calls(l)
		if s2, is2 := settle.Ended(l); s2 != s || is2 != is || settle.Settled(l) != settled {
			t.Errorf("R7: of %s another thing is told the second time", words)
		}
	}
}

// An empty list is as good as none.
func TestNoneAndEmpty(t *testing.T) {
	for _, l := range [][]api.Node{nil, {}, make([]api.Node, 0, 4), tree("ok ok")[:0]} {
		s, is := settle.Ended(l)
		if len(settle.Settle(l)) > 0 || len(settle.Begin(l)) > 0 || settle.Settled(l) || s != 0 || is {
			t.Errorf("R3: of none: Settle = %v, Begin = %v, Settled = %v, Ended = %d, %v", settle.Settle(l), settle.Begin(l), settle.Settled(l), s, is)
		}
	}
}
