package mean_test

import (
	"slices"
	"strings"
	"testing"

	"redress/api"
	"redress/mean"
	"redress/parse"
	"redress/row"
	"redress/trace"
)

var (
	a     = api.Node{Kind: api.Act, Name: "a"}
	b     = api.Node{Kind: api.Act, Name: "b"}
	c     = api.Node{Kind: api.Act, Name: "c"}
	d     = api.Node{Kind: api.Act, Name: "d"}
	skip  = api.Node{Kind: api.Skip}
	throw = api.Node{Kind: api.Throw}
	yield = api.Node{Kind: api.Yield}
	seq   = api.Node{Kind: api.Seq}
	alt   = api.Node{Kind: api.Alt}
	par   = api.Node{Kind: api.Par}
	hand  = api.Node{Kind: api.Hand}
	block = api.Node{Kind: api.Block}
	pair  = api.Node{Kind: api.Pair}
	going = api.Node{Kind: api.Going}
	stack = api.Node{Kind: api.Stack}

	overTick  = api.Node{Kind: api.Over, Sign: api.Tick}
	overBang  = api.Node{Kind: api.Over, Sign: api.Bang}
	overQuery = api.Node{Kind: api.Over, Sign: api.Query}
	endTick   = api.Node{Kind: api.End, Sign: api.Tick}
	endBang   = api.Node{Kind: api.End, Sign: api.Bang}
	endQuery  = api.Node{Kind: api.End, Sign: api.Query}
)

// texts is the traces, written one behind the other.
func texts(l []trace.Trace) string {
	var s []string
	for _, x := range l {
		s = append(s, trace.Text(x))
	}
	return strings.Join(s, "; ")
}

func pairTexts(l []mean.Pair) string {
	var s []string
	for _, x := range l {
		s = append(s, trace.Text(x.P)+" / "+trace.Text(x.Q))
	}
	return strings.Join(s, "; ")
}

// term is the term of that text.
func term(t *testing.T, s string) []api.Node {
	t.Helper()
	l, _, e := parse.Parse(s)
	if e != api.OK {
		t.Fatalf("%q is no term: %d", s, e)
	}
	return l
}

// inBlock is what stands in the block of that text.
func inBlock(t *testing.T, s string) []api.Node {
	t.Helper()
	return row.Kids(term(t, "["+s+"]"))[0]
}

func doesAll(t *testing.T, l []api.Node, want string) {
	t.Helper()
	if got, e := mean.Plain(l); texts(got) != want || e != api.OK {
		t.Errorf("P7.2: Plain(%v) = %s, %d, want %s", l, texts(got), e, want)
	}
}

func hasPairs(t *testing.T, l []api.Node, want string) {
	t.Helper()
	if got, e := mean.Paired(l); pairTexts(got) != want || e != api.OK {
		t.Errorf("P7.3: Paired(%v) = %s, %d, want %s", l, pairTexts(got), e, want)
	}
}

func TestExamples(t *testing.T) {
	doesAll(t, term(t, "[a/b ; throww]"), "a b ok")
	doesAll(t, term(t, "(a + throw) > c"), "a ok; c ok")
	// Of the document's examples of the whole.
	doesAll(t, term(t, "yield | throw"), "!")
	doesAll(t, term(t, "a | b ; c"), "a b c ok; b a c ok; b c a ok")
	doesAll(t, term(t, "a | throw"), "a !")
}

func TestPlain(t *testing.T) {
	for s, want := range map[string]string{
		"a": "a ok", "abcdefgh": "abcdefgh ok", "skip": "ok", "throw": "!", "yield": "ok; ?",

		"a ; b": "a b ok", "b ; a": "b a ok", "a ; a": "a a ok", "skip ; a": "a ok", "a ; throw": "a !", "throw ; a": "!", "yield ; a": "?; a ok", "a ; yield": "a ok; a ?",
		"(a + throw) ; (b + yield)": "!; a ok; a ?; a b ok", "yield ; throw": "!; ?", "throw ; yield": "!",

		"a + b": "a ok; b ok", "b + a": "a ok; b ok", "a + a": "a ok", "yield + skip": "ok; ?", "throw + yield": "ok; !; ?", "a ; b + a": "a ok; a b ok",

		"a | b": "a b ok; b a ok", "a | a": "a a ok", "a | yield": "a ok; a ?", "yield | yield": "ok; ?", "throw | yield": "!", "skip | throw": "!", "skip | skip": "ok",
		"a ; b | c ; throw": "a b c !; a c b !; c a b !", "a ; yield | throw": "a !", "yield ; a | throw ; b": "!; a !", "a ; b | a": "a a b ok; a b a ok",
		"a | b | c": "a b c ok; a c b ok; b a c ok; b c a ok; c a b ok; c b a ok",

		"throw > a": "a ok", "a > b": "a ok", "yield > a": "ok; ?", "a ; throw > b": "a b ok", "a ; throw > throw": "a !", "throw > throw > a": "a ok", "throw > (a > b)": "a ok",
		"(throw + yield + a) > (b + yield)": "ok; ?; a ok; b ok", "a ; throw > b ; yield": "a b ok; a b ?", "(a | throw) > b": "a b ok", "throw > a ; throw > b": "a b ok",
	} {
		doesAll(t, term(t, s), want)
	}
}

func TestBlocks(t *testing.T) {
	for s, want := range map[string]string{
		"[a/b]": "a ok", "[throw/b]": "ok", "[yield/b]": "ok", "[skip/throw]": "ok", "[skipp]": "ok", "[throww]": "ok", "[yieldd]": "ok",
		// What ends well is not taken back; of what threw only what ended well is.
		"[(a + throw)/b]": "ok; a ok", "[(a ; yield)/b]": "a ok", "[(a ; throw)/b]": "a ok",
		"[a/b ; c/d ; throww]": "a c d b ok", "[a/b ; (c ; throw)/d]": "a c b ok", "[throww ; a/b]": "ok", "[a/b ; throww ; c/d]": "a b ok",
		// What takes back may itself throw, or give way.
		"[a/throw ; throww]": "a !", "[a/yield ; throww]": "a ok; a ?", "[a/b ; c/throw ; throww]": "a c !", "[a/b ; c/yield ; throww]": "a c ?; a c b ok", "[a/(b ; throw) ; throww]": "a b !",
		// Side by side: it may give way ahead of being begun, if the other one throws; taking back is side by side, too.
		"[a/b | throww]": "ok; a b ok", "[a/b | c/d]": "a c ok; c a ok", "[a/b | c/d | throww]": "ok; a b ok; a c b d ok; a c d b ok; c a b d ok; c a d b ok; c d ok",
		"[yieldd | throww]": "ok", "[(a ; yield)/b | throww]": "ok; a ok; a b ok", "[a/throw | throww]": "ok; a !", "[yieldd | yieldd]": "ok",
		"[a/b + throww]": "ok; a ok", "[(a/b + c/d) ; throww]": "a b ok; c d ok",
		"[a/b ; (c/d | throww)]": "a b ok; a c d b ok",
		// A block ends, or throws, to the outside.
		"[a/throw ; throww] > b": "a b ok", "[a/b ; throww] ; c": "a b c ok", "[[a/b ; throww]/c ; throww]": "a b c ok", "[[a/throw ; throww]/c ; throww]": "a ok",
		"[a/yield ; throww] | throw": "a !", "[a/[b/c ; throww] ; throww]": "a b c ok",
	} {
		doesAll(t, term(t, s), want)
	}
}

func TestPlainOn(t *testing.T) {
	for _, x := range []struct {
		want string
		l    []api.Node
	}{
		{"ok", []api.Node{overTick}}, {"!", []api.Node{overBang}}, {"?", []api.Node{overQuery}},
		{"a ok", []api.Node{seq, overTick, a}}, {"!", []api.Node{seq, overBang, a}}, {"?", []api.Node{seq, overQuery, a}},
		{"ok", []api.Node{hand, overTick, a}}, {"a ok", []api.Node{hand, overBang, a}}, {"?", []api.Node{hand, overQuery, a}},
		{"a ok", []api.Node{par, overTick, a}}, {"a !", []api.Node{par, a, overBang}}, {"a ?", []api.Node{par, overQuery, a}}, {"!", []api.Node{par, overQuery, overBang}},
		{"ok", []api.Node{block, endTick, a}}, {"a ok", []api.Node{block, endBang, a}}, {"", []api.Node{block, endQuery, a}},
		{"a ok", []api.Node{block, going, a, b}}, {"ok", []api.Node{block, going, overBang, b}}, {"", []api.Node{block, going, overQuery, b}},
		{"a b ok", []api.Node{block, stack, endBang, a, b}}, {"ok", []api.Node{block, stack, endTick, a, b}}, {"", []api.Node{block, stack, endQuery, a, b}}, {"a !", []api.Node{block, stack, endBang, seq, a, throw, b}},
		{"b ok", []api.Node{block, seq, going, overTick, a, pair, b, c}}, {"b a ok", []api.Node{block, seq, endTick, a, pair, seq, b, throw, c}},
		// What has no trace leaves none, wherever it goes on.
		{"", []api.Node{seq, block, endQuery, a, b}}, {"", []api.Node{par, block, endQuery, a, b}}, {"", []api.Node{hand, block, endQuery, a, b}}, {"", []api.Node{block, going, block, endQuery, a, b}},
		{"a b ok; b a ok", []api.Node{block, par, endBang, a, endQuery, b}}, {"", []api.Node{block, par, endTick, a, endQuery, b}},
	} {
		doesAll(t, x.l, x.want)
	}
}

func TestPaired(t *testing.T) {
	for s, want := range map[string]string{
		"a/b": "? / ok; a ok / b ok", "skipp": "ok / ok; ? / ok", "throww": "! / ok; ? / ok", "yieldd": "ok / ok; ? / ok", "throw/b": "! / ok; ? / ok", "yield/b": "ok / b ok; ? / ok",
		"a/(b + yield)": "? / ok; a ok / ok; a ok / ?; a ok / b ok", "(a + b ; throw)/c": "? / ok; a ok / c ok; b ! / ok", "a/(b | c)": "? / ok; a ok / b c ok; a ok / c b ok",

		"a/b ; c/d":       "? / ok; a ? / b ok; a c ok / d b ok",
		"a/b ; throww":    "? / ok; a ! / b ok; a ? / b ok",
		"throww ; a/b":    "! / ok; ? / ok",
		"a/b ; c/throw":   "? / ok; a ? / b ok; a c ok / !",
		"a/throw ; c/d":   "? / ok; a ? / !; a c ok / d !",
		"a/(b + d) ; c/d": "? / ok; a ? / b ok; a ? / d ok; a c ok / d b ok; a c ok / d d ok",
		"a/b ; a/b ; a/b": "? / ok; a ? / b ok; a a ? / b b ok; a a a ok / b b b ok",
		"a/b ; yield/c":   "? / ok; a ok / c b ok; a ? / b ok",
		"yield/c ; a/d":   "? / ok; ? / c ok; a ok / d c ok",

		"a/b + c/d": "? / ok; a ok / b ok; c ok / d ok", "c/d + a/b": "? / ok; a ok / b ok; c ok / d ok", "a/b + a/b": "? / ok; a ok / b ok", "a/d + a/b": "? / ok; a ok / b ok; a ok / d ok",

		"a/b | c/d":     "? / ok; a ? / b ok; a c ok / b d ok; a c ok / d b ok; c ? / d ok; c a ok / b d ok; c a ok / d b ok",
		"a/b | throww":  "! / ok; ? / ok; a ! / b ok; a ? / b ok",
		"a/throw | c/d": "? / ok; a ? / !; a c ok / d !; c ? / d ok; c a ok / d !",
		"a/b | a/b":     "? / ok; a ? / b ok; a a ok / b b ok",
	} {
		hasPairs(t, inBlock(t, s), want)
	}
}

func TestPairedOn(t *testing.T) {
	for _, x := range []struct {
		want string
		l    []api.Node
	}{
		{"a ok / b ok", []api.Node{going, a, b}}, {"! / ok", []api.Node{going, throw, b}}, {"ok / b ok; ? / ok", []api.Node{going, yield, b}}, {"? / ok", []api.Node{going, overQuery, b}}, {"ok / b ok", []api.Node{going, overTick, b}},
		{"a ! / ok", []api.Node{going, par, a, overBang, b}}, {"a ok / ok; a ok / ?", []api.Node{going, a, yield}}, {"", []api.Node{going, block, endQuery, a, b}},
		{"ok / a ok", []api.Node{endTick, a}}, {"! / a ok", []api.Node{endBang, a}}, {"? / a ok", []api.Node{endQuery, a}}, {"? / ok; ? / ?", []api.Node{endQuery, yield}}, {"ok / a !", []api.Node{endTick, seq, a, throw}},
		{"a ok / b c ok", []api.Node{stack, going, a, b, c}}, {"? / c ok; a ok / b c ok", []api.Node{stack, pair, a, b, c}}, {"! / b c ok", []api.Node{stack, endBang, b, c}}, {"a ok / !", []api.Node{stack, going, a, throw, c}},
		{"a ok / b c d ok", []api.Node{stack, stack, going, a, b, c, d}}, {"! / b ok; ! / b ?", []api.Node{stack, endBang, b, yield}}, {"! / ?; ! / b ok", []api.Node{stack, endBang, yield, b}}, {"! / ok; ! / c ok", []api.Node{stack, endBang, skip, alt, c, skip}},
		{"a ? / b ok; a c ok / d b ok", []api.Node{seq, going, a, b, pair, c, d}}, {"! / b ok", []api.Node{seq, endBang, b, pair, c, d}}, {"? / b ok", []api.Node{seq, endQuery, b, pair, c, d}}, {"? / b ok; c ok / d b ok", []api.Node{seq, endTick, b, pair, c, d}},
		{"! / a b ok; ! / b a ok", []api.Node{par, endBang, a, endQuery, b}}, {"a ? / b c ok; a ? / c b ok", []api.Node{par, going, a, b, endQuery, c}}, {"ok / !", []api.Node{par, endTick, throw, endTick, yield}},
		{"a ? / b ok; a c ok / d b ok", []api.Node{seq, stack, going, a, skip, b, pair, c, d}},
	} {
		hasPairs(t, x.l, x.want)
	}
}

func TestBack(t *testing.T) {
	for s, want := range map[string]string{
		"a/b": "ok; b ok", "throw/b": "ok", "skip/b": "ok; b ok", "a/(b + throw)": "ok; !; b ok", "a/b ; c/d": "ok; b ok; d b ok", "a/b | c/d": "ok; b ok; b d ok; d ok; d b ok", "a/b + c/b": "ok; b ok", "(a + c)/b": "ok; b ok", "a/yield": "ok; ?",
	} {
		if got, e := mean.Back(inBlock(t, s)); texts(got) != want || e != api.OK {
			t.Errorf("P7.4: Back(%s) = %s, %d, want %s", s, texts(got), e, want)
		}
	}
	for _, x := range []struct {
		want string
		l    []api.Node
	}{
		{"b ok", []api.Node{going, a, b}}, {"a ok", []api.Node{endQuery, a}}, {"ok; ?", []api.Node{endBang, yield}}, {"b c ok", []api.Node{stack, endBang, b, c}}, {"b ok; d b ok", []api.Node{seq, endTick, b, pair, c, d}}, {"", []api.Node{going, block, endQuery, a, b}},
	} {
		if got, e := mean.Back(x.l); texts(got) != x.want || e != api.OK {
			t.Errorf("P7.4: Back(%v) = %s, %d, want %s", x.l, texts(got), e, x.want)
		}
	}
}

// Six actions side by side: all rows of them, rising.
func TestSixSideBySide(t *testing.T) {
	for _, s := range []string{"a | b | c | d | e | f", "f | (e | (d | (c | (b | a))))", "(a | f | c) | (b | d | e)"} {
		got, e := mean.Plain(term(t, s))
		if e != api.OK || len(got) != 720 {
			t.Fatalf("P7.2: Plain(%s) has %d traces, %d", s, len(got), e)
		}
		want := strings.Split("abcdef", "")
		for k, x := range got {
			if sorted := slices.Sorted(slices.Values(x.A)); !slices.Equal(sorted, want) || x.End != api.Tick {
				t.Errorf("P7.2: Plain(%s) has %v", s, x)
			}
			if k > 0 && slices.Compare(got[k-1].A, x.A) >= 0 {
				t.Errorf("P7.2: Plain(%s) has %v ahead of %v", s, got[k-1], x)
			}
		}
	}
	got, e := mean.Paired(inBlock(t, "a/b | c/d | e/f"))
	full := 0
	for _, x := range got {
		if x.P.End == api.Tick {
			full++
		}
	}
	if e != api.OK || full != 36 {
		t.Errorf("P7.3: three pairs side by side: %d pairs that were done, %d", full, e)
	}
}
