package step_test

import (
	"slices"
	"testing"

	"redress/api"
	"redress/step"
)

// What lies behind the end of a row that is handed in.
var spare = api.Node{Kind: api.Yield, Name: "spare", Sign: 5}

// roomy is l with room behind it; what lies in that room is neither to be read nor written over.
func roomy(l []api.Node) []api.Node {
	return append(slices.Clone(l), spare, spare, spare)[:len(l)]
}

func untouched(l, was []api.Node) bool {
	return slices.Equal(l[:len(was)+3], append(slices.Clone(was), spare, spare, spare))
}

// spoil writes into all that a row may reach.
func spoil(l []api.Node) {
	for k := range l[:cap(l)] {
		l[:cap(l)][k] = api.Node{Kind: -5, Name: "spoilt", Sign: 9}
	}
}

// asked is one call: of a row, a move or a place, and what is put there.
type asked struct {
	name string
	l    []api.Node
	call func(l []api.Node) []api.Node
}

// calls is each call, where it does something and where it does nothing.
func calls(t *testing.T) []asked {
	var all []asked
	for _, c := range known {
		m := madeOf(t, c.move)
		all = append(all, asked{"Next", tree(c.words), func(l []api.Node) []api.Node {
			next, _, _ := step.Next(l, m)
			return next
		}}, asked{"Refuse", tree(c.words), func(l []api.Node) []api.Node {
			next, _ := step.Refuse(l, m)
			return next
		}})
	}
	for _, c := range putAs {
		all = append(all, asked{"Put", tree(c.words), func(l []api.Node) []api.Node { return step.Put(l, c.at, tree(c.put)) }})
	}
	for _, c := range putNone {
		all = append(all, asked{"Put", tree(c.words), func(l []api.Node) []api.Node { return step.Put(l, c.at, tree("b")) }})
	}
	return all
}

func TestRowsAreTheCallersOwn(t *testing.T) {
	for _, c := range calls(t) {
		l := roomy(c.l)
		want := c.call(slices.Clone(c.l))
		got, again := c.call(l), c.call(l)
		if !untouched(l, c.l) {
			t.Errorf("R5: %s changed %s", c.name, text(c.l))
		}
		if !slices.Equal(got, want) || !slices.Equal(again, want) {
			t.Errorf("R7: %s of %s is %s, then %s, want %s", c.name, text(c.l), text(got), text(again), text(want))
		}
		spoil(got)
		if !untouched(l, c.l) || !slices.Equal(again, want) || !slices.Equal(c.call(l), want) {
			t.Errorf("R6: to write into what %s told of %s changed something else", c.name, text(c.l))
		}
		spoil(l)
		if !slices.Equal(again, want) {
			t.Errorf("R6: what %s told of %s changed with that", c.name, text(c.l))
		}
	}
}

// What is put stays as it is, and is not kept.
func TestWhatIsPutIsTheCallersOwn(t *testing.T) {
	for _, c := range putAs {
		was := tree(c.put)
		x := roomy(was)
		got := step.Put(tree(c.words), c.at, x)
		if !untouched(x, was) {
			t.Errorf("R5: Put changed what was put in %s", c.words)
		}
		spoil(x)
		if !slices.Equal(got, tree(c.want)) {
			t.Errorf("R6: what Put told of %s changed with what was put", c.words)
		}
		x = roomy(was)
		spoil(step.Put(tree(c.words), c.at, x))
		if !untouched(x, was) {
			t.Errorf("R6: to write into what Put told of %s changed what was put", c.words)
		}
	}
}

// A part of a row may be put into that row itself.
func TestPutOfItself(t *testing.T) {
	l := tree("seq par a b alt c d")
	for at, want := range map[int]string{0: "par a b", 1: "seq par a b alt c d", 2: "seq par par a b b alt c d", 4: "seq par a b par a b", 6: "seq par a b alt c par a b"} {
		if got := step.Put(l, at, l[1:4]); text(got) != want || text(l) != "seq par a b alt c d" {
			t.Errorf("P13.1: Put of a part of the row at %d = %s, want %s; the row is %s", at, text(got), want, text(l))
		}
	}
}

// The room behind a row is no part of it.
func TestTheRoomIsNotRead(t *testing.T) {
	full := tree("seq a b c")
	if got := step.Put(full[:2], 0, tree("d")); text(got) != "seq a" {
		t.Errorf("P13.1: Put reads behind the row: %s", text(got))
	}
	if got := step.Put(full[:2], 2, tree("d")); text(got) != "seq a" {
		t.Errorf("P13.1: Put reads behind the row: %s", text(got))
	}
	isNoMove(t, full[:2], api.Move{At: 1, How: api.Do})
}

// An empty list is as good as none.
func TestNoneAndEmpty(t *testing.T) {
	for _, l := range [][]api.Node{nil, {}, make([]api.Node, 0, 4), tree("a yield")[:0]} {
		for _, m := range around(0) {
			isNoMove(t, l, m)
			if got := step.Put(l, m.At, tree("a")); len(got) > 0 {
				t.Errorf("R3: Put(none, %d, a) = %s", m.At, text(got))
			}
		}
		if got := step.Put(tree("seq a b"), 1, l); text(got) != "seq b" {
			t.Errorf("R3: Put(seq a b, 1, none) = %s", text(got))
		}
	}
}
