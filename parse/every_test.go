package parse_test

import (
	"slices"
	"strings"
	"testing"

	"redress/api"
	"redress/parse"
	"redress/row"
	"redress/sort"
	"redress/token"
)

// firstFault is the place of the first token at which a text can't go on, or false if there is none: told by what may follow what, and which brackets are open.
func firstFault(tokens []token.Token, long int) (int, bool) {
	type open struct {
		closes  int
		slashed bool
	}
	var opened []open
	wanted, slashed := true, false
	for _, x := range tokens {
		starts := x.Kind == token.Name || x.Kind == token.Open || x.Kind == token.From
		if starts != wanted {
			return x.At, true
		}
		switch x.Kind {
		case token.Name:
			wanted = false
		case token.Open:
			opened, slashed = append(opened, open{token.Close, slashed}), false
		case token.From:
			opened, slashed = append(opened, open{token.To, slashed}), false
		case token.Close, token.To:
			last := len(opened) - 1
			if last < 0 || opened[last].closes != x.Kind {
				return x.At, true
			}
			opened, slashed = opened[:last], opened[last].slashed
		case token.Slash:
			if slashed {
				return x.At, true
			}
			wanted, slashed = true, true
		default:
			wanted, slashed = true, false
		}
	}
	return long, wanted || len(opened) > 0
}

// last is the place of the last token of that kind that stands in no brackets, or -1.
func last(tokens []token.Token, kind int) int {
	deep, at := 0, -1
	for k, x := range tokens {
		switch x.Kind {
		case token.Open, token.From:
			deep++
		case token.Close, token.To:
			deep--
		case kind:
			if deep == 0 {
				at = k
			}
		}
	}
	return at
}

// torn is the tree of tokens that have no fault, made from above: they are torn at the mark that binds least, at the last one of it.
func torn(tokens []token.Token) []api.Node {
	for _, x := range []struct {
		mark int
		n    api.Node
	}{{token.Bar, par}, {token.Plus, alt}, {token.More, hand}, {token.Semi, seq}, {token.Slash, pair}} {
		if at := last(tokens, x.mark); at >= 0 {
			return row.Make(x.n, torn(tokens[:at]), torn(tokens[at+1:]))
		}
	}
	inner := tokens[min(1, len(tokens)-1):max(1, len(tokens)-1)]
	switch tokens[0].Kind {
	case token.Open:
		return torn(inner)
	case token.From:
		return row.Make(block, torn(inner))
	}
	return parse.Name(tokens[0].Name)
}

// isAsTold holds a text against what is told of it in another way, and tells whether it is a term.
func isAsTold(t *testing.T, s string) bool {
	t.Helper()
	tokens, at, want := token.Lex(s)
	if want == api.OK {
		if place, is := firstFault(tokens, len(s)); is {
			at, want = place, api.ErrParseForm
		}
	}
	if want != api.OK {
		isRefused(t, s, at, want)
		return false
	}
	l := torn(tokens)
	if len(l) > api.MaxNodes {
		isRefused(t, s, 0, api.ErrParseMany)
		return false
	}
	if row.Depth(l) > api.MaxDepth {
		isRefused(t, s, 0, api.ErrParseDeep)
		return false
	}
	if !sort.Term(l) {
		isRefused(t, s, 0, api.ErrParseSort)
		return false
	}
	isRead(t, s, l...)
	isTheSameAgain(t, s)
	return true
}

// isTheSameAgain holds a text that is read against what is printed of it, and read again.
func isTheSameAgain(t *testing.T, s string) {
	t.Helper()
	first, _, _ := parse.Parse(s)
	text, is := parse.Print(first)
	again, at, errno := parse.Parse(text)
	twice, _ := parse.Print(again)
	if !is || !slices.Equal(again, first) || at != len(text) || errno != api.OK || twice != text {
		t.Errorf("P6.4: %q is %v, printed %q, read again %v, %d, %d, and printed again %q", s, first, text, again, at, errno, twice)
	}
}

// everyText is all texts of up to so many of these pieces.
func everyText(most int, pieces ...string) []string {
	all, longest := []string{""}, []string{""}
	for range most {
		var next []string
		for _, s := range longest {
			for _, piece := range pieces {
				next = append(next, s+piece)
			}
		}
		all, longest = append(all, next...), next
	}
	return all
}

// areAsTold holds many texts against what is told of them in another way; a number of them has to be terms.
func areAsTold(t *testing.T, least int, texts []string) {
	t.Helper()
	terms := 0
	for _, s := range texts {
		if isAsTold(t, s) {
			terms++
		}
	}
	if terms < least {
		t.Errorf("only %d of %d texts are terms", terms, len(texts))
	}
}

func TestEveryShortText(t *testing.T) {
	areAsTold(t, 40, everyText(4, "a", "(", ")", "[", "]", ";", "+", "|", ">", "/", " ", "skipp", "1"))
	areAsTold(t, 30, everyText(5, "a", "(", ")", "[", "]", ";", "|", "/"))
	areAsTold(t, 30, everyText(7, "b", "(", ")", ";", "/"))
}

func TestEveryRowOfMarks(t *testing.T) {
	marks := []string{"|", "+", ">", ";", "/"}
	var texts []string
	for _, joined := range everyText(5, marks...) {
		s := "a"
		for k := range joined {
			s += joined[k:k+1] + "bcdef"[k:k+1]
		}
		texts = append(texts, s, "["+strings.NewReplacer("a", "yieldd", "b", "skipp", "c", "(c/d)").Replace(s)+"]")
	}
	areAsTold(t, 1000, texts)
}

// One piece more, less, or another, at each place of a text.
func TestEachPieceAtEachPlace(t *testing.T) {
	was := strings.Fields("( a | b ) ; [ c / ( d + skip ) ; throww | e / [ yieldd ] ] > f ; throw + yield")
	pieces := []string{"", "a", "(", ")", "[", "]", ";", "+", "|", ">", "/", "skip", "yieldd", "A", "abcdefghi"}
	texts := []string{strings.Join(was, " "), strings.Join(was, ""), strings.Join(was, "   ")}
	for at := range was {
		for _, piece := range pieces {
			more, other := slices.Insert(slices.Clone(was), at, piece), slices.Clone(was)
			other[at] = piece
			texts = append(texts, strings.Join(more, " "), strings.Join(other, " "))
		}
		texts = append(texts, strings.Join(was[:at], " "), strings.Join(was[at:], " "))
	}
	areAsTold(t, 80, texts)
}
