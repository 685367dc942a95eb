package settle_test

import (
	"math"
	"testing"

	"redress/api"
	"redress/parse"
	"redress/row"
	"redress/settle"
)

// comesOf holds against want what comes of the tree, and of what comes of it.
func comesOf(t *testing.T, words, want string) {
	t.Helper()
	l := tree(words)
	words, want = text(l), text(tree(want))
	got := settle.Settle(l)
	if text(got) != want {
		t.Errorf("P10.1: Settle(%s) = %s, want %s", words, text(got), want)
		return
	}
	if is := settle.Settled(l); is != (words == want && words != "") {
		t.Errorf("P10.2: Settled(%s) = %v", words, is)
	}
	if len(got) > 0 && !settle.Settled(got) {
		t.Errorf("P10.3: what comes of %s, %s, is not Settled", words, want)
	}
}

func TestOfOne(t *testing.T) {
	for words, want := range map[string]string{
		"a": "a", "skip": "ok", "throw": "!", "yield": "yield", "ok": "ok", "!": "!", "?": "?",
	} {
		comesOf(t, words, want)
	}
}

func TestSeqAndHand(t *testing.T) {
	for words, want := range map[string]string{
		"seq skip a": "a", "seq ok a": "a", "seq ok skip": "ok", "seq ok throw": "!", "seq skip yield": "yield",
		"seq throw a": "!", "seq ! skip": "!", "seq ? a": "?", "seq ? throw": "?",
		"seq a skip": "seq a skip", "seq yield throw": "seq yield throw",
		"seq skip seq skip seq throw a": "!", "seq seq seq skip skip skip a": "a", "seq seq a skip skip": "seq seq a skip skip",
		"hand throw a": "a", "hand ! a": "a", "hand ! skip": "ok", "hand throw throw": "!", "hand ! yield": "yield",
		"hand skip a": "ok", "hand ok throw": "ok", "hand ? a": "?", "hand ? throw": "?",
		"hand a throw": "hand a throw", "hand yield skip": "hand yield skip",
		"hand throw hand throw hand skip a": "ok", "hand hand throw throw a": "a",
		"seq hand throw skip a": "a", "hand seq skip throw a": "a", "seq hand skip throw a": "a", "hand seq throw skip a": "a",
		"seq hand ? a b": "?", "hand seq ? a b": "?",
	} {
		comesOf(t, words, want)
	}
}

func TestPar(t *testing.T) {
	for words, want := range map[string]string{
		"par ok ok": "ok", "par ok !": "!", "par ok ?": "?",
		"par ! ok": "!", "par ! !": "!", "par ! ?": "!",
		"par ? ok": "?", "par ? !": "!", "par ? ?": "?",
		"par skip skip": "ok", "par skip throw": "!", "par throw ?": "!", "par ? skip": "?",
		"par a skip": "par a ok", "par skip a": "par ok a", "par throw yield": "par ! yield", "par yield throw": "par yield !",
		"par a b": "par a b", "par par skip throw a": "par ! a", "par a par ? skip": "par a ?",
		"par seq skip a hand throw b": "par a b", "par alt skip skip skip": "par alt skip skip ok",
		// Of what is paired.
		"par end-ok a end-ok b": "end-ok par a b", "par end-ok a end-! b": "end-! par a b", "par end-ok a end-? b": "end-? par a b",
		"par end-! a end-ok b": "end-! par a b", "par end-! a end-! b": "end-! par a b", "par end-! a end-? b": "end-! par a b",
		"par end-? a end-ok b": "end-? par a b", "par end-? a end-! b": "end-! par a b", "par end-? a end-? b": "end-? par a b",
		"par end-ok skip end-ok throw": "end-ok par skip throw", "par end-ok seq a b end-! hand c d": "end-! par seq a b hand c d",
		"par end-ok a pair b c": "par end-ok a pair b c", "par pair b c end-! a": "par pair b c end-! a",
		"par going skip a going throw b": "end-! par a skip", "par going a b going ? c": "par going a b end-? skip",
		"par par end-ok a end-ok b end-ok c": "end-ok par par a b c",
	} {
		comesOf(t, words, want)
	}
}

func TestBlock(t *testing.T) {
	for words, want := range map[string]string{
		"block end-ok a": "ok", "block end-ok throw": "ok", "block end-! a": "a", "block end-! skip": "ok", "block end-! throw": "!",
		"block end-! seq skip yield": "yield", "block end-! seq a skip": "seq a skip", "block end-! block pair a skip": "block pair a skip",
		"block end-? skip": "block end-? skip", "block end-? throw": "block end-? throw", "block end-? seq skip a": "block end-? seq skip a",
		"block pair skip skip": "block pair skip skip", "block alt pair a b pair c d": "block alt pair a b pair c d",
		"block going skip a": "ok", "block going throw a": "ok", "block going ? a": "block end-? skip", "block going a skip": "block going a skip",
		"seq block end-ok a b": "b", "seq block end-! throw b": "!", "hand block end-! throw b": "b", "seq block end-? a b": "seq block end-? a b",
		"par block end-ok a block end-! throw": "!", "block par going skip a going throw b": "par a ok",
		"block going block going block going throw a b c": "ok",
	} {
		comesOf(t, words, want)
	}
}

func TestGoing(t *testing.T) {
	for words, want := range map[string]string{
		"going ok b": "end-ok b", "going ok throw": "end-ok throw", "going skip seq skip a": "end-ok seq skip a",
		"going ! b": "end-! skip", "going throw b": "end-! skip", "going ? b": "end-? skip", "going ? throw": "end-? skip",
		"going a skip": "going a skip", "going seq skip a throw": "going a throw", "going hand throw skip b": "end-ok b",
		"going par skip ? seq a b": "end-? skip", "going block end-! throw b": "end-! skip", "going block end-? a b": "going block end-? a b",
	} {
		comesOf(t, words, want)
	}
}

func TestSeqOfPaired(t *testing.T) {
	for words, want := range map[string]string{
		"seq end-ok a pair b c": "stack pair b c a", "seq end-ok skip pair skip throw": "stack pair skip throw skip",
		"seq end-ok a seq pair b c pair d e": "stack seq pair b c pair d e a", "seq end-ok a alt pair b c pair d e": "stack alt pair b c pair d e a",
		"seq end-ok a par pair b c pair d e": "stack par pair b c pair d e a",
		"seq end-! a pair b c":               "end-! a", "seq end-? a pair b c": "end-? a", "seq end-! seq skip throw pair b c": "end-! seq skip throw",
		"seq pair a b pair c d": "seq pair a b pair c d", "seq going a b pair c d": "seq going a b pair c d",
		"seq going skip a pair b c": "stack pair b c a", "seq going throw a pair b c": "end-! skip", "seq going ? a pair b c": "end-? skip",
		"seq seq going skip a pair b c pair d e": "seq stack pair b c a pair d e",
		"seq stack end-ok a b pair c d":          "stack pair c d seq a b",
	} {
		comesOf(t, words, want)
	}
}

func TestStack(t *testing.T) {
	for words, want := range map[string]string{
		"stack end-ok a b": "end-ok seq a b", "stack end-! a b": "end-! seq a b", "stack end-? a b": "end-? seq a b",
		"stack end-ok skip skip": "end-ok seq skip skip", "stack end-! seq throw a alt b skip": "end-! seq seq throw a alt b skip",
		"stack pair skip throw skip": "stack pair skip throw skip", "stack going a skip throw": "stack going a skip throw",
		"stack going skip a b": "end-ok seq a b", "stack going throw a b": "end-! seq skip b", "stack going seq skip c a b": "stack going c a b",
		"stack stack end-ok a b c": "end-ok seq seq a b c", "stack stack pair a b c d": "stack stack pair a b c d",
		"stack par end-ok a going ? b c": "end-? seq par a skip c",
	} {
		comesOf(t, words, want)
	}
}

func TestWhatHasNotBegunStays(t *testing.T) {
	for _, words := range []string{
		"alt skip throw", "alt seq skip a par skip skip", "pair skip throw", "pair seq skip a hand throw b", "alt pair skip skip pair throw throw",
		"seq a seq skip b", "hand a par skip skip", "going a seq skip b", "stack pair a b seq skip c", "stack going a b hand throw c",
		"end-ok skip", "end-! throw", "end-? seq skip a", "end-ok block pair skip skip", "seq pair a b pair skip skip",
		"par pair skip skip pair throw skip", "seq a block pair skip skip", "hand yield alt skip throw",
	} {
		comesOf(t, words, words)
	}
}

func TestWhatIsNoTreeThatGoesOn(t *testing.T) {
	for _, words := range []string{
		"", "seq a", "seq", "a a", "ok ok", "seq a b c", "block a", "block skip", "block ok", "par a pair b c", "hand pair a b pair c d",
		"pair ok a", "pair a ok", "seq a ok", "seq ok ok", "hand throw !", "alt ok a", "alt skip ?", "going a ok", "going pair a b c", "stack a b", "stack pair a b ok",
		"end-ok ok", "end-ok pair a b", "end-! block end-! a", "seq pair a b end-ok c", "alt end-ok a pair b c", "seq ok pair a b", "seq pair a b skip",
	} {
		comesOf(t, words, "")
	}
	for _, l := range [][]api.Node{
		nil, {}, {{}}, {{Kind: -1}}, {{Kind: api.End + 1}}, {{Kind: api.Act}}, {{Kind: api.Act, Name: "skip"}}, {{Kind: api.Act, Name: "toolongaa"}}, {{Kind: api.Act, Name: "A"}},
		{{Kind: api.Skip, Name: "a"}}, {{Kind: api.Throw, Sign: api.Tick}}, {{Kind: api.Over}}, {{Kind: api.Over, Sign: api.Query + 1}}, {{Kind: api.Over, Sign: -1}}, {{Kind: api.Over, Sign: api.Tick, Name: "a"}},
		{{Kind: api.Seq, Sign: api.Tick}, {Kind: api.Skip}, {Kind: api.Skip}}, {{Kind: api.Seq}, {Kind: api.Skip}, {Kind: api.Act}},
		{{Kind: api.End}, {Kind: api.Skip}}, {{Kind: api.End, Sign: api.Query + 1}, {Kind: api.Skip}}, {{Kind: api.Block}, {Kind: api.End, Sign: 7}, {Kind: api.Skip}},
	} {
		if got := settle.Settle(l); len(got) != 0 || settle.Settled(l) {
			t.Errorf("P10.1, P10.2: Settle(%v) = %v; Settled: %v", l, got, settle.Settled(l))
		}
		if got := settle.Begin(l); len(got) != 0 {
			t.Errorf("P10.2: Begin(%v) = %v", l, got)
		}
	}
}

func TestEnded(t *testing.T) {
	for words, want := range map[string]int{"ok": api.Tick, "!": api.Bang, "?": api.Query} {
		if s, is := settle.Ended(tree(words)); s != want || !is {
			t.Errorf("P10.2: Ended(%s) = %d, %v", words, s, is)
		}
	}
	for _, words := range []string{
		"", "a", "skip", "throw", "yield", "ok ok", "! !", "seq ok a", "seq ? a", "par ok ok", "end-ok a", "end-ok", "end-!", "block end-! a", "block", "seq", "a ok", "ok a",
	} {
		if s, is := settle.Ended(tree(words)); s != 0 || is {
			t.Errorf("P10.2: Ended(%s) = %d, %v", words, s, is)
		}
	}
	// A node of another kind is no Over, whatever sign it has.
	for _, n := range []api.Node{
		{}, {Sign: api.Tick}, {Kind: api.Over + 256, Sign: api.Tick}, {Kind: -api.Over, Sign: api.Bang}, {Kind: api.Skip, Sign: api.Tick}, {Kind: api.Act, Name: "a", Sign: api.Bang},
		{Kind: api.End, Sign: api.Query},
	} {
		if s, is := settle.Ended([]api.Node{n}); s != 0 || is {
			t.Errorf("P10.2: Ended(%v) = %d, %v", n, s, is)
		}
	}
}

// Whether a node is an Over is a matter of its kind alone: one that is not row.Right tells its sign too.
func TestEndedOfAnOverThatIsNotRight(t *testing.T) {
	for _, n := range []api.Node{
		{Kind: api.Over}, {Kind: api.Over, Sign: -1}, {Kind: api.Over, Sign: api.Query + 1}, {Kind: api.Over, Sign: math.MaxInt}, {Kind: api.Over, Sign: math.MinInt},
		{Kind: api.Over, Name: "a"}, {Kind: api.Over, Sign: api.Bang, Name: "a"}, {Kind: api.Over, Sign: 7, Name: "skip"},
	} {
		if row.Right(n) {
			t.Errorf("%v is right", n)
		}
		if s, is := settle.Ended([]api.Node{n}); s != n.Sign || !is {
			t.Errorf("P10.2: Ended(%v) = %d, %v, want %d, true", n, s, is, n.Sign)
		}
		// Only alone is it what has ended.
		for _, l := range [][]api.Node{{n, n}, {n, {Kind: api.Skip}}, {{Kind: api.Block}, n}} {
			if s, is := settle.Ended(l); s != 0 || is {
				t.Errorf("P10.2: Ended(%v) = %d, %v", l, s, is)
			}
		}
	}
}

// Every kind by every sign, those about them that are none too.
func TestEndedOfEveryNode(t *testing.T) {
	for kind := -1; kind <= api.End+1; kind++ {
		for s := -1; s <= api.Query+1; s++ {
			for _, name := range []string{"", "a"} {
				n, want, has := api.Node{Kind: kind, Name: name, Sign: s}, 0, kind == api.Over
				if has {
					want = s
				}
				if got, is := settle.Ended([]api.Node{n}); got != want || is != has {
					t.Errorf("P10.2: Ended(%v) = %d, %v, want %d, %v", n, got, is, want, has)
				}
			}
		}
	}
}

func TestBegin(t *testing.T) {
	for s, want := range map[string]string{
		"a": "a", "skip": "ok", "throw": "!", "yield": "yield", "skip ; a": "a", "throw ; a": "!", "throw > a": "a", "a | skip": "par a ok", "throw + skip": "alt throw skip",
		"[a/b ; throww]": "block seq pair a b pair throw skip", "skip | throw": "!", "skip ; [skip/skip]": "block pair skip skip", "(skip ; throw > yield) | skip": "par yield ok",
	} {
		l, _, e := parse.Parse(s)
		if got := settle.Begin(l); e != api.OK || text(got) != want {
			t.Errorf("P10.2: Begin(%s) = %s, %d, want %s", s, text(got), e, want)
		}
	}
	// What goes on, or is paired, is no term that may begin.
	for _, words := range []string{"", "ok", "!", "?", "seq ok a", "par ok a", "block end-! a", "block going a b", "pair a b", "seq pair a b pair c d", "end-ok a", "going skip a", "stack pair a b c", "seq a", "a a"} {
		if got := settle.Begin(tree(words)); len(got) != 0 {
			t.Errorf("P10.2: Begin(%s) = %s", words, text(got))
		}
	}
}

// The chapter's own examples.
func TestExamples(t *testing.T) {
	comesOf(t, "seq skip a", "a")
	comesOf(t, "block seq end-ok b pair c d", "block stack pair c d b")
}
