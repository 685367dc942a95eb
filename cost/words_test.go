package cost_test

import (
	"slices"
	"strings"
	"testing"

	"redress/api"
)

// Trees are written as words here: an Over as its sign, an End as end- and its sign, an Act as its name.
var nodes = map[string]api.Node{
	"skip": {Kind: api.Skip}, "throw": {Kind: api.Throw}, "yield": {Kind: api.Yield},
	"seq": {Kind: api.Seq}, "alt": {Kind: api.Alt}, "par": {Kind: api.Par}, "hand": {Kind: api.Hand},
	"block": {Kind: api.Block}, "pair": {Kind: api.Pair}, "going": {Kind: api.Going}, "stack": {Kind: api.Stack},
	"ok": {Kind: api.Over, Sign: api.Tick}, "!": {Kind: api.Over, Sign: api.Bang}, "?": {Kind: api.Over, Sign: api.Query},
	"end-ok": {Kind: api.End, Sign: api.Tick}, "end-!": {Kind: api.End, Sign: api.Bang}, "end-?": {Kind: api.End, Sign: api.Query},
}

// arities is how many trees stand behind these words; behind others, none.
var arities = map[string]int{
	"seq": 2, "alt": 2, "par": 2, "hand": 2, "pair": 2, "going": 2, "stack": 2,
	"block": 1, "end-ok": 1, "end-!": 1, "end-?": 1,
}

// tree is the row of nodes that these words are.
func tree(words string) []api.Node {
	var l []api.Node
	for _, word := range strings.Fields(words) {
		n, known := nodes[word]
		if !known {
			n = api.Node{Kind: api.Act, Name: word}
		}
		l = append(l, n)
	}
	return l
}

// text is the words that this row is; a node that has no word of its own tells nothing that could be mistaken for one.
func text(l []api.Node) string {
	var words []string
	for _, n := range l {
		words = append(words, wordOf(n))
	}
	return strings.Join(words, " ")
}

func wordOf(n api.Node) string {
	for word, known := range nodes {
		if n == known {
			return word
		}
	}
	if n == (api.Node{Kind: api.Act, Name: n.Name}) {
		return n.Name
	}
	return "<none>"
}

// times is these words, so often.
func times(words string, count int) string {
	return strings.Join(slices.Repeat([]string{words}, count), " ")
}

func TestWordsAreRead(t *testing.T) {
	for word, n := range nodes {
		if wordOf(n) != word || text(tree(word+" a "+word)) != word+" a "+word {
			t.Errorf("%q is read as %v", word, n)
		}
	}
}
