package parse

import (
	"redress/api"
	"redress/row"
	"redress/token"
)

// way is how trees of two are read at a level: of which kind they are, which mark stands between, and by which method.
type way struct {
	kind, mark int
	read       func(level int) ([]api.Node, bool)
}

// reader reads tokens from left to right, and never goes past one at which that can't go on.
type reader struct {
	tokens []token.Token
	next   int
	ways   [5]way
}

// read is the tree of these tokens, and whether there is one; if not, the place at which they can't go on: that is end, if there are too few.
func read(tokens []token.Token, end int) (tree []api.Node, at int, ok bool) {
	// A token of no kind stands for the end, so that there is always a next one.
	r := &reader{tokens: append(tokens, token.Token{At: end})}
	r.ways = [...]way{
		{api.Par, token.Bar, r.many},
		{api.Alt, token.Plus, r.many},
		{api.Hand, token.More, r.many},
		{api.Seq, token.Semi, r.many},
		{api.Pair, token.Slash, r.oneOrTwo},
	}
	tree, ok = r.level(0)
	if !ok || r.next < len(tokens) {
		return nil, r.tokens[r.next].At, false
	}
	return tree, 0, true
}

// level reads what stands at that level: at the first one a term, behind the last way an atom.
func (r *reader) level(level int) ([]api.Node, bool) {
	if level == len(r.ways) {
		return r.atom()
	}
	return r.ways[level].read(level)
}

// many reads one or more of the next level, with the mark of this one between.
func (r *reader) many(level int) ([]api.Node, bool) {
	tree, ok := r.level(level + 1)
	for ok && r.take(r.ways[level].mark) {
		tree, ok = r.join(level, tree)
	}
	return tree, ok
}

// oneOrTwo reads one of the next level; and a second one, if the mark of this one stands between.
func (r *reader) oneOrTwo(level int) ([]api.Node, bool) {
	tree, ok := r.level(level + 1)
	if ok && r.take(r.ways[level].mark) {
		tree, ok = r.join(level, tree)
	}
	return tree, ok
}

// join reads one more of the next level: it is the tree of the first one, and of that.
func (r *reader) join(level int, first []api.Node) ([]api.Node, bool) {
	second, ok := r.level(level + 1)
	if !ok {
		return nil, false
	}
	return row.Make(api.Node{Kind: r.ways[level].kind}, first, second), true
}

// atom reads a name, or a term between brackets.
func (r *reader) atom() ([]api.Node, bool) {
	switch {
	case r.take(token.Name):
		return Name(r.tokens[r.next-1].Name), true
	case r.take(token.Open):
		return r.upTo(token.Close)
	case r.take(token.From):
		tree, ok := r.upTo(token.To)
		if !ok {
			return nil, false
		}
		return row.Make(api.Node{Kind: api.Block}, tree), true
	}
	return nil, false
}

// upTo reads a term, and the mark that closes it.
func (r *reader) upTo(mark int) ([]api.Node, bool) {
	tree, ok := r.level(0)
	if !ok || !r.take(mark) {
		return nil, false
	}
	return tree, true
}

// take goes past the next token, if it is of that kind, and tells whether it is.
func (r *reader) take(kind int) bool {
	if r.tokens[r.next].Kind != kind {
		return false
	}
	r.next++
	return true
}
