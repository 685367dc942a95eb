package parse

import (
	"redress/api"
	"redress/row"
	"redress/sort"
)

// Print is the text of the term l, and whether it is one that may begin.
func Print(l []api.Node) (string, bool) {
	if !sort.Right(l) {
		return "", false
	}
	return text(l), true
}

// text is the text of a tree that is part of a term.
func text(l []api.Node) string {
	kids := row.Kids(l)
	switch len(kids) {
	case 0:
		return word(l[0])
	case 1:
		return "[" + text(kids[0]) + "]"
	}
	hold, between := bind(l[0].Kind)
	// The second one has to hold faster than its node: else it would be read as a part of what stands ahead of it.
	return within(kids[0], hold) + between + within(kids[1], hold+1)
}

// word is the text of a node that has no trees behind it.
func word(n api.Node) string {
	switch n.Kind {
	case api.Skip:
		return "skip"
	case api.Throw:
		return "throw"
	case api.Yield:
		return "yield"
	}
	return n.Name
}

// bind is how fast a tree whose first node is of that kind holds together (the more, the faster), and what stands between its trees, if it has two.
func bind(kind int) (hold int, between string) {
	switch kind {
	case api.Par:
		return 1, " | "
	case api.Alt:
		return 2, " + "
	case api.Hand:
		return 3, " > "
	case api.Seq:
		return 4, " ; "
	case api.Pair:
		return 5, "/"
	}
	// What stands alone, or has brackets of its own, can't be torn apart.
	return 6, ""
}

// within is the text of a tree where it has to hold as fast as least: in brackets, if it does not of itself.
func within(l []api.Node, least int) string {
	if hold, _ := bind(l[0].Kind); hold < least {
		return "(" + text(l) + ")"
	}
	return text(l)
}
