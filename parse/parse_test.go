package parse_test

import (
	"slices"
	"strings"
	"testing"

	"redress/api"
	"redress/parse"
	"redress/row"
	"redress/sort"
)

var (
	a     = api.Node{Kind: api.Act, Name: "a"}
	b     = api.Node{Kind: api.Act, Name: "b"}
	c     = api.Node{Kind: api.Act, Name: "c"}
	d     = api.Node{Kind: api.Act, Name: "d"}
	e     = api.Node{Kind: api.Act, Name: "e"}
	skip  = api.Node{Kind: api.Skip}
	throw = api.Node{Kind: api.Throw}
	yield = api.Node{Kind: api.Yield}
	seq   = api.Node{Kind: api.Seq}
	alt   = api.Node{Kind: api.Alt}
	par   = api.Node{Kind: api.Par}
	hand  = api.Node{Kind: api.Hand}
	block = api.Node{Kind: api.Block}
	pair  = api.Node{Kind: api.Pair}
	over  = api.Node{Kind: api.Over, Sign: api.Tick}
	end   = api.Node{Kind: api.End, Sign: api.Bang}
	going = api.Node{Kind: api.Going}
	stack = api.Node{Kind: api.Stack}
)

// isRead holds a text against the tree that it has.
func isRead(t *testing.T, s string, want ...api.Node) {
	t.Helper()
	l, at, errno := parse.Parse(s)
	if !slices.Equal(l, want) || at != len(s) || errno != api.OK {
		t.Errorf("P6.2: Parse(%q) = %v, %d, %d, want %v, %d, OK", s, l, at, errno, want, len(s))
	}
	if !sort.Right(l) {
		t.Errorf("P6.4: Parse(%q) = %v, which is not Right", s, l)
	}
}

// isRefused holds a text against the place and the error of its fault.
func isRefused(t *testing.T, s string, wantAt int, want api.Errno) {
	t.Helper()
	l, at, errno := parse.Parse(s)
	if len(l) != 0 || at != wantAt || errno != want {
		t.Errorf("P6.2: Parse(%q) = %v, %d, %d, want none, %d, %d", s, l, at, errno, wantAt, want)
	}
}

func TestNameOfWords(t *testing.T) {
	for s, want := range map[string][]api.Node{
		"skip": {skip}, "throw": {throw}, "yield": {yield},
		"skipp": {pair, skip, skip}, "throww": {pair, throw, skip}, "yieldd": {pair, yield, skip},
	} {
		if got := parse.Name(s); !slices.Equal(got, want) {
			t.Errorf("P6.1: Name(%q) = %v, want %v", s, got, want)
		}
	}
}

func TestNameOfActs(t *testing.T) {
	for _, s := range []string{
		"a", "z", "ab", "abcdefgh", "ski", "skippp", "throwww", "yielddd", "thro", "hrow", "askip", "skipskip", "kipp", "act", "seq", "ok",
		// No Act may have these names; they are no words all the same.
		"", "Skip", "SKIPP", "skip ", " skip", "abcdefghi", "a b", "1", "\x00", "\xff", "skip\x00", "é", strings.Repeat("skip", 1000),
	} {
		if got, want := parse.Name(s), []api.Node{{Kind: api.Act, Name: s}}; !slices.Equal(got, want) {
			t.Errorf("P6.1: Name(%q) = %v, want %v", s, got, want)
		}
	}
}

func TestExamples(t *testing.T) {
	isRead(t, "[a/b ; c/d] | e", par, block, seq, pair, a, b, pair, c, d, e)
	isRefused(t, "a b", 2, api.ErrParseForm)
	isRefused(t, "a/b", 0, api.ErrParseSort)
}

func TestAtoms(t *testing.T) {
	isRead(t, "a", a)
	isRead(t, "  a  ", a)
	isRead(t, "skip", skip)
	isRead(t, "throw", throw)
	isRead(t, "yield", yield)
	isRead(t, "abcdefgh", api.Node{Kind: api.Act, Name: "abcdefgh"})
	isRead(t, "skippp", api.Node{Kind: api.Act, Name: "skippp"})
	isRead(t, "(a)", a)
	isRead(t, "((( a )))", a)
	isRead(t, "[a/b]", block, pair, a, b)
	isRead(t, "([(a/b)])", block, pair, a, b)
	isRead(t, "[skipp]", block, pair, skip, skip)
	isRead(t, "[throww]", block, pair, throw, skip)
	isRead(t, "[yieldd]", block, pair, yield, skip)
	isRead(t, "[skip/skip]", block, pair, skip, skip)
	isRead(t, "[[a/b]/[c/d]]", block, pair, block, pair, a, b, block, pair, c, d)
}

func TestNodesOfTwo(t *testing.T) {
	isRead(t, "a|b", par, a, b)
	isRead(t, "a+b", alt, a, b)
	isRead(t, "a>b", hand, a, b)
	isRead(t, "a;b", seq, a, b)
	isRead(t, " a ; b ", seq, a, b)
	isRead(t, "skip;throw", seq, skip, throw)
	// More than two, from left to right.
	isRead(t, "a|b|c|d", par, par, par, a, b, c, d)
	isRead(t, "a+b+c+d", alt, alt, alt, a, b, c, d)
	isRead(t, "a>b>c>d", hand, hand, hand, a, b, c, d)
	isRead(t, "a;b;c;d", seq, seq, seq, a, b, c, d)
	isRead(t, "a;(b;(c;d))", seq, a, seq, b, seq, c, d)
	isRead(t, "(a;b);(c;d)", seq, seq, a, b, seq, c, d)
	isRead(t, "[a/b;c/d;skipp]", block, seq, seq, pair, a, b, pair, c, d, pair, skip, skip)
	isRead(t, "[a/b+c/d|yieldd]", block, par, alt, pair, a, b, pair, c, d, pair, yield, skip)
	isRead(t, "[(a;b)/(c|d)]", block, pair, seq, a, b, par, c, d)
}

// Each two marks, in both orders: the one that stands further back in the document's table is read first.
func TestMarksBeside(t *testing.T) {
	marks := "|+>;"
	nodes := []api.Node{par, alt, hand, seq}
	for i, x := range nodes {
		for k, y := range nodes {
			s := "a" + marks[i:i+1] + "b" + marks[k:k+1] + "c"
			if i < k {
				isRead(t, s, x, a, y, b, c)
			} else {
				isRead(t, s, y, x, a, b, c)
			}
			isRead(t, "a"+marks[i:i+1]+"(b"+marks[k:k+1]+"c)", x, a, y, b, c)
			isRead(t, "(a"+marks[i:i+1]+"b)"+marks[k:k+1]+"c", y, x, a, b, c)
		}
	}
	isRead(t, "a|b+c>d;e", par, a, alt, b, hand, c, seq, d, e)
	isRead(t, "a;b>c+d|e", par, alt, hand, seq, a, b, c, d, e)
	isRead(t, "[a/b|c/d;skipp]", block, par, pair, a, b, seq, pair, c, d, pair, skip, skip)
}

func TestWhereTokensCannotGoOn(t *testing.T) {
	for s, at := range map[string]int{
		"": 0, " ": 1, "   ": 3, "(": 1, "[": 1, "( ": 2, ")": 0, "]": 0, " )": 1, ";": 0, "/": 0, "|": 0, "+": 0, ">": 0,
		"()": 1, "[]": 1, "( )": 2, "(]": 1, "a(": 1, "a[b/c]": 1, "a b": 2, "a  b c": 3, "(a)b": 3, "(a)(b)": 3, "[a/b]c": 5, "[a/b][c/d]": 5,
		"a)": 1, "a]": 1, "(a": 2, "(a ": 3, "[a/b": 4, "(a]": 2, "[a/b)": 4, "((a)": 4, "(a))": 3, "[(a/b])": 5, "([a/b)]": 5,
		"a;": 2, "a; ": 3, "a;;b": 2, "a|+b": 2, "a+|b": 2, "a>;b": 2, "a;>b": 2, ";a": 0, "a;)": 2, "(a;)": 3, "(;a)": 1, "a/": 2, "a//b": 2, "/a": 0, "a/;b": 2, "a;/b": 2,
		"a/b/c": 3, "a/b / c": 4, "[a/b/c]": 4, "a;b/c/d": 5, "(a/b)/(c/d)/e": 11, "a/b(": 3, "skipp/skipp/skipp": 11,
		"a/b;c d e": 6, "(((((": 5, "a ( b": 2, "[a/b ; c/d": 10,
	} {
		isRefused(t, s, at, api.ErrParseForm)
	}
}

func TestFaultsOfTokensComeAhead(t *testing.T) {
	isRefused(t, "a 1", 2, api.ErrTokenByte)
	isRefused(t, "a b 1", 4, api.ErrTokenByte)
	isRefused(t, ") A", 2, api.ErrTokenByte)
	isRefused(t, "\xff", 0, api.ErrTokenByte)
	isRefused(t, "a\tb", 1, api.ErrTokenByte)
	isRefused(t, ";;; abcdefghi", 4, api.ErrTokenName)
	isRefused(t, "a/b abcdefghi 1", 4, api.ErrTokenName)
	isRefused(t, strings.Repeat("(", api.MaxText+1), api.MaxText, api.ErrTokenLong)
	isRefused(t, "a"+strings.Repeat(" ", api.MaxText), api.MaxText, api.ErrTokenLong)
	isRefused(t, strings.Repeat("\x00", 1<<20), api.MaxText, api.ErrTokenLong)
}

func TestTextsAsLongAsTheyMayBe(t *testing.T) {
	long := api.MaxText
	isRead(t, "a"+strings.Repeat(" ", long-1), a)
	isRead(t, strings.Repeat(" ", long-1)+"a", a)
	// Brackets of this kind make no node, so they may be as deep as the text lets them.
	isRead(t, strings.Repeat("(", long/2-1)+"a"+strings.Repeat(")", long/2-1), a)
	isRefused(t, strings.Repeat("(", long), long, api.ErrParseForm)
	isRefused(t, strings.Repeat("[", long), long, api.ErrParseForm)
	isRefused(t, strings.Repeat(" ", long), long, api.ErrParseForm)
	isRefused(t, strings.Repeat("(", long-1)+"a", long, api.ErrParseForm)
	isRefused(t, strings.Repeat("(", long/2-1)+"a"+strings.Repeat(")", long/2), long-1, api.ErrParseForm)
	isRefused(t, strings.Repeat("(", long-1)+"]", long-1, api.ErrParseForm)
	isRefused(t, strings.Repeat("a;", long/2), long, api.ErrParseForm)
	isRefused(t, strings.Repeat("a;", long/2-1)+"a", 0, api.ErrParseMany)
	isRefused(t, strings.Repeat("[", long/2-1)+"a"+strings.Repeat("]", long/2-1), 0, api.ErrParseMany)
}

// bush is a text of so many actions side by side, far less deep than long: it has two nodes less one for each.
func bush(acts int) string {
	if acts == 1 {
		return "a"
	}
	return "(" + bush(acts/2) + "|" + bush(acts-acts/2) + ")"
}

// chain is a text of so many actions, one behind the other: as deep as it has actions.
func chain(acts int) string {
	return "a" + strings.Repeat(";a", acts-1)
}

// isOfNodes holds a text that is read against how many nodes its tree has, and how deep it is.
func isOfNodes(t *testing.T, s string, nodes, deep int) {
	t.Helper()
	l, at, errno := parse.Parse(s)
	if len(l) != nodes || row.Depth(l) != deep || at != len(s) || errno != api.OK || !sort.Right(l) {
		t.Errorf("P6.2: Parse(%q): %d nodes, %d deep, %d, %d, want %d and %d", s, len(l), row.Depth(l), at, errno, nodes, deep)
	}
}

func TestAsManyNodesAsThereMayBe(t *testing.T) {
	isOfNodes(t, bush(29), 57, 6)
	isOfNodes(t, bush(30), 59, 6)
	isRefused(t, bush(31), 0, api.ErrParseMany)
	isRefused(t, bush(100), 0, api.ErrParseMany)
	isOfNodes(t, bush(28)+"|[a/b]", 60, 7)
	isOfNodes(t, bush(28)+"|[skipp]", 60, 7)
	isRefused(t, bush(29)+"|[a/b]", 0, api.ErrParseMany)
	isRefused(t, bush(29)+"|[throww]", 0, api.ErrParseMany)
	// A Block is a node; brackets that are none do not count.
	isOfNodes(t, "[("+bush(28)+")/((b))]|c", 60, 9)
	isRefused(t, "[[a/b]/("+bush(28)+")]", 0, api.ErrParseMany)
}

func TestAsDeepAsItMayBe(t *testing.T) {
	isOfNodes(t, chain(15), 29, 15)
	isOfNodes(t, chain(16), 31, 16)
	isRefused(t, chain(17), 0, api.ErrParseDeep)
	isRefused(t, chain(30), 0, api.ErrParseDeep)
	isOfNodes(t, "(("+chain(15)+"));((b))", 31, 16)
	isRefused(t, "("+chain(16)+")|b", 0, api.ErrParseDeep)
	isRefused(t, "b|("+chain(16)+")", 0, api.ErrParseDeep)
	nested := strings.Repeat("[a/", 7) + "b" + strings.Repeat("]", 7)
	isOfNodes(t, nested, 22, 15)
	isOfNodes(t, nested+";b", 24, 16)
	isRefused(t, "[a/"+nested+"]", 0, api.ErrParseDeep)
	isOfNodes(t, "[("+chain(14)+")/b]", 30, 16)
	isRefused(t, "[("+chain(15)+")/b]", 0, api.ErrParseDeep)
}

func TestWhatIsNoTerm(t *testing.T) {
	for _, s := range []string{
		"a/b", "(a/b)", "skipp", "throww", "yieldd", " skipp ", "skipp;skipp", "a/b;c/d", "a/b|c/d", "a/b+c/d", "a;skipp", "skipp;a", "a|b/c", "a+b/c", "a>b/c", "a/b>c",
		"[a]", "[skip]", "[a;b]", "[[a/b]]", "[a/b;c]", "[a;b/c]", "[a/b|c]", "[a+b/c]", "[a/b>c/d]", "[skipp>skipp]", "[skipp;skip]", "[skip;skipp]",
		"[(a/b)/c]", "[a/(b/c)]", "[skipp/a]", "[a/skipp]", "[[a/b]/skipp]", "[a/b;[c/d]]", "a;[b]", "[a/(b;yieldd)]",
	} {
		isRefused(t, s, 0, api.ErrParseSort)
	}
}

func TestTheFirstFaultIsTold(t *testing.T) {
	many, deep := chain(31), chain(17)
	isRefused(t, many, 0, api.ErrParseMany)
	isRefused(t, many+" ;", len(many)+2, api.ErrParseForm)
	isRefused(t, deep+"  b", len(deep)+2, api.ErrParseForm)
	isRefused(t, "a/b ) "+many, 4, api.ErrParseForm)
	isRefused(t, "a/("+many+")", 0, api.ErrParseMany)
	isRefused(t, "["+many+"]", 0, api.ErrParseMany)
	isRefused(t, "a/("+deep+")", 0, api.ErrParseDeep)
	isRefused(t, "["+deep+"]", 0, api.ErrParseDeep)
	isRefused(t, deep+";skipp", 0, api.ErrParseDeep)
	// No term, and as long or as deep as one may be.
	isRefused(t, "a/("+chain(15)+")", 0, api.ErrParseSort)
	isRefused(t, "["+bush(30)+"]", 0, api.ErrParseSort)
	isRefused(t, "[["+bush(30)+"]]", 0, api.ErrParseMany)
}
