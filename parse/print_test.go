package parse_test

import (
	"slices"
	"strings"
	"testing"

	"redress/api"
	"redress/parse"
	"redress/row"
	"redress/sort"
)

// isPrinted holds a term against its text.
func isPrinted(t *testing.T, want string, l ...api.Node) {
	t.Helper()
	if got, is := parse.Print(l); got != want || !is {
		t.Errorf("P6.3: Print(%v) = %q, %v, want %q, true", l, got, is, want)
	}
}

// isNotPrinted holds what is no term against its having no text.
func isNotPrinted(t *testing.T, why string, l ...api.Node) {
	t.Helper()
	if got, is := parse.Print(l); got != "" || is {
		t.Errorf("P6.3: %s: Print(%v) = %q, %v, want nothing, false", why, l[:min(len(l), 12)], got, is)
	}
}

func TestPrint(t *testing.T) {
	isPrinted(t, "a", a)
	isPrinted(t, "abcdefgh", api.Node{Kind: api.Act, Name: "abcdefgh"})
	isPrinted(t, "skip", skip)
	isPrinted(t, "throw", throw)
	isPrinted(t, "yield", yield)
	isPrinted(t, "a | b", par, a, b)
	isPrinted(t, "a + b", alt, a, b)
	isPrinted(t, "a > b", hand, a, b)
	isPrinted(t, "a ; b", seq, a, b)
	isPrinted(t, "[a/b]", block, pair, a, b)
	isPrinted(t, "[skip/skip]", block, pair, skip, skip)
	isPrinted(t, "[throw/skip ; yield/skip]", block, seq, pair, throw, skip, pair, yield, skip)
	isPrinted(t, "[a/b ; c/d] | e", par, block, seq, pair, a, b, pair, c, d, e)
	isPrinted(t, "a | b + c > d ; e", par, a, alt, b, hand, c, seq, d, e)
	isPrinted(t, "(((a | b) + c) > d) ; e", seq, hand, alt, par, a, b, c, d, e)
	isPrinted(t, "[[a/b]/[c/d]] > [(a ; b)/(c | d)]", hand, block, pair, block, pair, a, b, block, pair, c, d, block, pair, seq, a, b, par, c, d)
	// Where a tree is in a Pair, but in another one that is, it is told by that one.
	isPrinted(t, "[(a ; b > c)/skip]", block, pair, hand, seq, a, b, c, skip)
	isPrinted(t, "[(a > (b | c))/[d/e]]", block, pair, hand, a, par, b, c, block, pair, d, e)
}

// For each two kinds of nodes of two, one in the other: whether it stands in brackets as the first one, and as the second one, written down by hand.
func TestBrackets(t *testing.T) {
	nodes := []api.Node{par, alt, hand, seq}
	marks := []string{" | ", " + ", " > ", " ; "}
	for i, outer := range [][]string{
		// What is in it: a Par, an Alt, a Hand, a Seq. First, and second.
		{"-2", "--", "--", "--"},
		{"12", "-2", "--", "--"},
		{"12", "12", "-2", "--"},
		{"12", "12", "12", "-2"},
	} {
		for k, brackets := range outer {
			first, second := "a"+marks[k]+"b", "b"+marks[k]+"c"
			if brackets[0] == '1' {
				first = "(" + first + ")"
			}
			if brackets[1] == '2' {
				second = "(" + second + ")"
			}
			isPrinted(t, first+marks[i]+"c", nodes[i], nodes[k], a, b, c)
			isPrinted(t, "a"+marks[i]+second, nodes[i], a, nodes[k], b, c)
		}
	}
	for k, inner := range nodes {
		isPrinted(t, "[(a"+marks[k]+"b)/c]", block, pair, inner, a, b, c)
		isPrinted(t, "[a/(b"+marks[k]+"c)]", block, pair, a, inner, b, c)
		if inner != hand {
			isPrinted(t, "[a/b"+marks[k]+"c/d]", block, inner, pair, a, b, pair, c, d)
		}
		isPrinted(t, "[a/b]"+marks[k]+"[c/d]", inner, block, pair, a, b, block, pair, c, d)
	}
}

func TestWhatHasNoText(t *testing.T) {
	isNotPrinted(t, "nothing")
	isNotPrinted(t, "nothing", []api.Node{}...)
	isNotPrinted(t, "two trees", a, b)
	isNotPrinted(t, "a node too few", seq, a)
	isNotPrinted(t, "a node too many", seq, a, b, c)
	isNotPrinted(t, "a block of nothing", block)
	isNotPrinted(t, "paired", pair, a, b)
	isNotPrinted(t, "paired", seq, pair, a, b, pair, c, d)
	isNotPrinted(t, "a block of what is plain", block, a)
	isNotPrinted(t, "a pair in a pair", block, pair, pair, a, b, c)
	isNotPrinted(t, "plain and paired", block, seq, pair, a, b, c)
	isNotPrinted(t, "a hand of pairs", block, hand, pair, a, b, pair, c, d)
	for _, l := range [][]api.Node{{over}, {seq, over, a}, {hand, over, a}, {par, a, over}, {block, end, a}, {block, going, a, b}, {block, stack, pair, a, b, c}, {going, a, b}, {end, a}} {
		isNotPrinted(t, "what only goes on", l...)
	}
	for _, n := range []api.Node{
		{}, {Kind: -1}, {Kind: api.End + 1}, {Kind: 1 << 40}, {Kind: api.Act}, {Kind: api.Act, Name: "A"}, {Kind: api.Act, Name: "abcdefghi"}, {Kind: api.Act, Name: "a b"}, {Kind: api.Act, Name: "a;b"},
		{Kind: api.Act, Name: "skip"}, {Kind: api.Act, Name: "throww"}, {Kind: api.Act, Name: "a", Sign: api.Tick}, {Kind: api.Skip, Name: "skip"}, {Kind: api.Throw, Sign: api.Bang}, {Kind: api.Yield, Name: "a"}, {Kind: api.Over},
	} {
		isNotPrinted(t, "a wrong node", n)
		isNotPrinted(t, "a wrong node", seq, a, n)
		isNotPrinted(t, "a wrong node", block, pair, n, b)
	}
	isNotPrinted(t, "a wrong node", api.Node{Kind: api.Seq, Name: "a"}, a, b)
	isNotPrinted(t, "a wrong node", api.Node{Kind: api.Block, Sign: 1}, pair, a, b)
}

// wide is a term of so many actions, and two nodes less one for each.
func wide(acts int, n, leaf api.Node) []api.Node {
	if acts == 1 {
		return []api.Node{leaf}
	}
	return row.Make(n, wide(acts/2, n, leaf), wide(acts-acts/2, n, leaf))
}

func TestPrintOfLongAndDeepTerms(t *testing.T) {
	for acts := 25; acts <= 40; acts++ {
		l := wide(acts, alt, a)
		if len(l) > api.MaxNodes {
			isNotPrinted(t, "too many nodes", l...)
		} else {
			isReadBack(t, l)
		}
	}
	l, r := []api.Node{a}, []api.Node{a}
	for deep := 2; deep <= api.MaxDepth+4; deep++ {
		l, r = row.Make(seq, l, []api.Node{b}), row.Make(hand, []api.Node{b}, r)
		if deep > api.MaxDepth {
			isNotPrinted(t, "too deep", l...)
			isNotPrinted(t, "too deep", r...)
			continue
		}
		isPrinted(t, "a"+strings.Repeat(" ; b", deep-1), l...)
		isPrinted(t, strings.Repeat("b > (", deep-2)+"b > a"+strings.Repeat(")", deep-2), r...)
	}
	isNotPrinted(t, "a long row", slices.Repeat([]api.Node{seq}, 1<<16)...)
	isNotPrinted(t, "a long row", append(slices.Repeat([]api.Node{seq, a}, 1<<16), a)...)
	isNotPrinted(t, "a long row", append(slices.Repeat([]api.Node{block}, 1<<16), pair, a, b)...)
}

// The longest texts there are: long names, and brackets wherever they may be.
func TestLongestTexts(t *testing.T) {
	long := api.Node{Kind: api.Act, Name: "zyxwvuts"}
	for _, n := range []api.Node{par, alt, hand, seq} {
		isReadBack(t, wide(30, n, long))
		isReadBack(t, row.Make(hand, wide(15, n, long), wide(15, seq, long)))
		l := row.Make(block, row.Make(pair, wide(29, n, long), []api.Node{long}))
		if len(l) != api.MaxNodes {
			t.Errorf("the term has %d nodes", len(l))
		}
		isReadBack(t, l)
	}
}

// ahead tells whether a kind comes ahead of another one, in the document's order.
func ahead(kind, other int) bool {
	order := []int{api.Par, api.Alt, api.Hand, api.Seq}
	i, k := slices.Index(order, kind), slices.Index(order, other)
	return i >= 0 && k >= 0 && i < k
}

// inBrackets is the document's own sentence on where a tree stands in brackets.
func inBrackets(kind, in int, second bool) bool {
	five := slices.Contains([]int{api.Par, api.Alt, api.Hand, api.Seq, api.Pair}, kind)
	return five && (in == api.Pair || ahead(kind, in) || kind == in && second)
}

// byHand is the text of a term; where all is asked for, each tree that has a node of two ahead of it stands in brackets.
func byHand(l []api.Node, all bool) string {
	n, kids := l[0], row.Kids(l)
	if n.Kind == api.Block {
		return "[" + byHand(kids[0], all) + "]"
	}
	if len(kids) == 0 {
		return map[int]string{api.Act: n.Name, api.Skip: "skip", api.Throw: "throw", api.Yield: "yield"}[n.Kind]
	}
	var parts []string
	for k, kid := range kids {
		s := byHand(kid, all)
		if all || inBrackets(kid[0].Kind, n.Kind, k == 1) {
			s = "(" + s + ")"
		}
		parts = append(parts, s)
	}
	return strings.Join(parts, map[int]string{api.Par: " | ", api.Alt: " + ", api.Hand: " > ", api.Seq: " ; ", api.Pair: "/"}[n.Kind])
}

// isReadBack holds a term against its text by hand, and that text, with as many brackets as it needs and with all of them, against the term.
func isReadBack(t *testing.T, l []api.Node) {
	t.Helper()
	isPrinted(t, byHand(l, false), l...)
	text, _ := parse.Print(l)
	if len(text) > api.MaxText {
		t.Errorf("P6.4: the text of %v is %d bytes long", l, len(text))
	}
	isRead(t, text, l...)
	if full := byHand(l, true); len(full) <= api.MaxText {
		isRead(t, full, l...)
	}
}

// terms is all plain, and all paired terms of up to so many nodes.
func terms(most int, leaves ...api.Node) (plain, paired [][]api.Node) {
	plains, paireds := [][][]api.Node{nil}, [][][]api.Node{nil}
	for size := 1; size <= most; size++ {
		var newPlain, newPaired [][]api.Node
		if size == 1 {
			for _, n := range leaves {
				newPlain = append(newPlain, []api.Node{n})
			}
		}
		for _, x := range paireds[size-1] {
			newPlain = append(newPlain, row.Make(block, x))
		}
		for left := 1; left < size-1; left++ {
			right := size - 1 - left
			newPlain = append(newPlain, both(plains[left], plains[right], seq, alt, par, hand)...)
			newPaired = append(newPaired, both(plains[left], plains[right], pair)...)
			newPaired = append(newPaired, both(paireds[left], paireds[right], seq, alt, par)...)
		}
		plains, paireds = append(plains, newPlain), append(paireds, newPaired)
	}
	return slices.Concat(plains...), slices.Concat(paireds...)
}

// both is all of one of the first and one of the second ones, with each of these nodes ahead.
func both(first, second [][]api.Node, nodes ...api.Node) [][]api.Node {
	var l [][]api.Node
	for _, x := range first {
		for _, y := range second {
			for _, n := range nodes {
				l = append(l, row.Make(n, x, y))
			}
		}
	}
	return l
}

func TestEveryTerm(t *testing.T) {
	for _, x := range []struct {
		most   int
		leaves []api.Node
	}{{10, []api.Node{a}}, {6, []api.Node{a, skip, throw, yield}}} {
		plain, paired := terms(x.most, x.leaves...)
		for _, l := range plain {
			if !sort.Right(l) {
				t.Errorf("%v is no term", l)
			}
			isReadBack(t, l)
		}
		for _, l := range paired {
			isNotPrinted(t, "paired", l...)
			isRefused(t, byHand(l, false), 0, api.ErrParseSort)
		}
		if len(plain) < 1000 || len(paired) < 100 {
			t.Errorf("only %d plain and %d paired terms were tried", len(plain), len(paired))
		}
	}
}

// closing is the place of the bracket that closes the one at that place.
func closing(s string, at int) int {
	deep := 0
	for k := at; k < len(s); k++ {
		switch s[k] {
		case '(':
			deep++
		case ')':
			deep--
		}
		if deep == 0 {
			return k
		}
	}
	return -1
}

// Without a pair of its brackets a text is that of another tree, or of none.
func TestNoBracketsForNothing(t *testing.T) {
	plain, _ := terms(9, a)
	tried := 0
	for _, l := range plain {
		text, _ := parse.Print(l)
		for at := range text {
			if text[at] != '(' {
				continue
			}
			tried++
			to := closing(text, at)
			less := text[:at] + text[at+1:to] + text[to+1:]
			if got, _, _ := parse.Parse(less); slices.Equal(got, l) {
				t.Errorf("P6.3: %q and %q are the same term", text, less)
			}
		}
	}
	if tried < 1000 {
		t.Errorf("only %d pairs of brackets were tried", tried)
	}
}
