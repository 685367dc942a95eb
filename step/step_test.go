package step_test

import (
	"math"
	"slices"
	"strconv"
	"strings"
	"testing"

	"redress/api"
	"redress/move"
	"redress/row"
	"redress/settle"
	"redress/step"
)

// known is settled trees, what comes of each of their moves, and the action that is done by it.
var known = []struct{ words, move, comes, act string }{
	// Each kind alone, in each way.
	{"a", "do 0", "ok", "a"},
	{"longname", "do 0", "ok", "longname"},
	{"yield", "go 0", "ok", ""},
	{"yield", "stop 0", "?", ""},
	{"alt a b", "left 0", "a", ""},
	{"alt a b", "right 0", "b", ""},
	{"alt throw skip", "left 0", "!", ""},
	{"alt throw skip", "right 0", "ok", ""},
	{"alt seq a b par c d", "left 0", "seq a b", ""},
	{"alt seq a b par c d", "right 0", "par c d", ""},
	{"alt alt a b alt c d", "right 0", "alt c d", ""},
	{"alt pair a b pair c d", "left 0", "pair a b", ""},
	{"alt pair a b pair c d", "right 0", "pair c d", ""},
	{"pair a b", "go 0", "going a b", ""},
	{"pair a b", "stop 0", "end-? skip", ""},
	{"pair skip b", "go 0", "end-ok b", ""},
	{"pair throw b", "go 0", "end-! skip", ""},
	{"pair seq a b alt c d", "go 0", "going seq a b alt c d", ""},
	{"pair seq a b alt c d", "stop 0", "end-? skip", ""},
	// One behind the other, and handed over.
	{"seq a throw", "do 1", "!", "a"},
	{"seq a b", "do 1", "b", "a"},
	{"seq seq a b c", "do 2", "seq b c", "a"},
	{"seq yield a", "go 1", "a", ""},
	{"seq yield a", "stop 1", "?", ""},
	{"seq alt a throw b", "left 1", "seq a b", ""},
	{"seq alt a throw b", "right 1", "!", ""},
	{"hand a b", "do 1", "ok", "a"},
	{"hand alt throw a b", "left 1", "b", ""},
	{"hand alt throw a b", "right 1", "hand a b", ""},
	{"hand yield b", "go 1", "ok", ""},
	{"hand yield b", "stop 1", "?", ""},
	{"hand seq a throw seq skip b", "do 2", "b", "a"},
	// Side by side: the other one stays as it is.
	{"par a yield", "do 1", "par ok yield", "a"},
	{"par a yield", "go 2", "par a ok", ""},
	{"par a yield", "stop 2", "par a ?", ""},
	{"par a seq b c", "do 3", "par a c", "b"},
	{"par a ok", "do 1", "ok", "a"},
	{"par ! yield", "stop 2", "!", ""},
	{"par ? a", "do 2", "?", "a"},
	{"par a a", "do 1", "par ok a", "a"},
	{"par a a", "do 2", "par a ok", "a"},
	{"par alt a b alt c d", "right 4", "par alt a b d", ""},
	{"par par a b alt c throw", "right 4", "par par a b !", ""},
	// In a block.
	{"block pair a b", "go 1", "block going a b", ""},
	{"block pair skip b", "go 1", "ok", ""},
	{"block going a b", "do 2", "ok", "a"},
	{"block going seq a throw b", "do 3", "ok", "a"},
	{"block going yield b", "go 2", "ok", ""},
	{"block alt pair a b pair throw d", "left 1", "block pair a b", ""},
	{"block alt pair a b pair throw d", "right 1", "block pair throw d", ""},
	{"block seq pair a b pair throw skip", "go 2", "block seq going a b pair throw skip", ""},
	{"block seq going a b pair throw skip", "do 3", "block stack pair throw skip b", "a"},
	{"block stack pair throw skip b", "go 2", "b", ""},
	{"block stack going a b c", "do 3", "ok", "a"},
	{"block stack stack going seq a throw b c d", "do 5", "seq c d", "a"},
	{"block par pair a b end-! c", "go 2", "block par going a b end-! c", ""},
	{"block par pair a b end-! c", "stop 2", "par ok c", ""},
	{"block par end-! c pair a b", "stop 4", "par c ok", ""},
	{"block par end-! c going a b", "do 5", "par c b", "a"},
	{"block par going yield b end-! c", "stop 3", "par ok c", ""},
	{"block par going a b end-ok c", "do 3", "ok", "a"},
	{"par block going a b yield", "do 3", "par ok yield", "a"},
	{"hand block stack going alt a throw b throw c", "right 4", "c", ""},
	// What is paired alone.
	{"seq pair a b pair c d", "go 1", "seq going a b pair c d", ""},
	{"seq pair a b pair c d", "stop 1", "end-? skip", ""},
	{"seq going a b pair c d", "do 2", "stack pair c d b", "a"},
	{"seq going seq a throw b pair c d", "do 3", "end-! skip", "a"},
	{"stack pair a b c", "stop 1", "end-? seq skip c", ""},
	{"stack going a b c", "do 2", "end-ok seq b c", "a"},
	{"par pair a b end-ok c", "stop 1", "end-? par skip c", ""},
	{"par going yield b end-! c", "go 2", "end-! par b c", ""},
	{"going a b", "do 1", "end-ok b", "a"},
	{"going yield b", "stop 1", "end-? skip", ""},
}

// refused is what comes where the Act at the place is refused.
var refused = []struct {
	words string
	at    int
	comes string
}{
	{"a", 0, "!"},
	{"seq a b", 1, "!"},
	{"seq seq a b c", 2, "!"},
	{"hand a b", 1, "b"},
	{"hand a throw", 1, "!"},
	{"hand seq a b seq skip c", 2, "c"},
	{"par a b", 1, "par ! b"},
	{"par a b", 2, "par a !"},
	{"par a ok", 1, "!"},
	{"par a ?", 1, "!"},
	{"par a seq a b", 3, "par a !"},
	{"going a b", 1, "end-! skip"},
	{"stack going a b c", 2, "end-! seq skip c"},
	{"seq going a b pair c d", 2, "end-! skip"},
	{"block going a b", 2, "ok"},
	{"block stack going a b c", 3, "c"},
	{"block par going a b end-ok c", 3, "par ok c"},
	{"block par going a b pair c d", 3, "block par end-! skip pair c d"},
	{"seq block stack going a b c d", 4, "seq c d"},
}

// putAs is what Put tells: capital X stands for the tree of the place.
var putAs = []struct {
	words string
	at    int
	put   string
	want  string
}{
	{"a", 0, "b", "b"},
	{"a", 0, "", ""},
	{"a", 0, "seq b c", "seq b c"},
	{"seq a b", 0, "c", "c"},
	{"seq a b", 1, "c", "seq c b"},
	{"seq a b", 2, "c", "seq a c"},
	{"seq a b", 2, "par c d", "seq a par c d"},
	{"seq a b", 1, "par c d", "seq par c d b"},
	{"seq a b", 1, "", "seq b"},
	{"seq a b", 2, "", "seq a"},
	{"par seq a b c", 1, "d", "par d c"},
	{"par seq a b c", 2, "d", "par seq d b c"},
	{"par seq a b c", 4, "d", "par seq a b d"},
	{"par seq a b c", 1, "ok ok", "par ok ok c"},
	{"block pair a b", 1, "end-? skip", "block end-? skip"},
	{"block pair a b", 0, "ok", "ok"},
	{"end-! seq a b", 1, "skip", "end-! skip"},
	// The row may be no tree, and what is put there need not be one.
	{"a b c", 1, "d", "a d c"},
	{"a seq b c d", 1, "", "a d"},
	{"seq a", 1, "b", "seq b"},
	{"seq seq a b", 1, "c", "seq c"},
	{"a a", 0, "seq", "seq a"},
	{"a a", 1, "seq pair", "a seq pair"},
}

// putNone is places at which no tree begins.
var putNone = []struct {
	words string
	at    int
}{
	{"", 0}, {"", -1}, {"", 1}, {"a", -1}, {"a", 1}, {"a", 2}, {"seq a b", 3}, {"seq a b", -3}, {"seq a b", math.MaxInt}, {"seq a b", math.MinInt},
	{"seq a", 0}, {"seq", 0}, {"block", 0}, {"seq seq a b", 0}, {"a seq b", 1}, {"a b end-ok", 2}, {"par a pair b", 2}, {"par a pair b", 0},
}

// madeOf is the move that these words are.
func madeOf(t *testing.T, words string) api.Move {
	t.Helper()
	how, place, _ := strings.Cut(words, " ")
	at, e := strconv.Atoi(place)
	k := slices.Index([]string{"", "do", "left", "right", "go", "stop"}, how)
	if e != nil || k < api.Do {
		t.Fatalf("%q is no move", words)
	}
	return api.Move{At: at, How: k}
}

// isNext holds Next against what is to come.
func isNext(t *testing.T, l []api.Node, m api.Move, comes []api.Node, act string) {
	t.Helper()
	got, name, e := step.Next(l, m)
	if !slices.Equal(got, comes) || name != act || e != api.OK {
		t.Fatalf("P13.2: Next(%s, %v) = %s, %q, %d, want %s, %q", text(l), m, text(got), name, e, text(comes), act)
	}
}

// isNoMove holds that neither Next nor Refuse do that move.
func isNoMove(t *testing.T, l []api.Node, m api.Move) {
	t.Helper()
	if got, name, e := step.Next(l, m); got != nil || name != "" || e != api.ErrMoveNone {
		t.Fatalf("P13.2: Next(%s, %v) = %s, %q, %d, want none and ErrMoveNone", text(l), m, text(got), name, e)
	}
	isNotRefused(t, l, m)
}

func isNotRefused(t *testing.T, l []api.Node, m api.Move) {
	t.Helper()
	if got, e := step.Refuse(l, m); got != nil || e != api.ErrMoveNone {
		t.Fatalf("P13.3: Refuse(%s, %v) = %s, %d, want none and ErrMoveNone", text(l), m, text(got), e)
	}
}

func isRefused(t *testing.T, l []api.Node, at int, comes []api.Node) {
	t.Helper()
	got, e := step.Refuse(l, api.Move{At: at, How: api.Do})
	if !slices.Equal(got, comes) || e != api.OK {
		t.Fatalf("P13.3: Refuse(%s, do %d) = %s, %d, want %s", text(l), at, text(got), e, text(comes))
	}
}

func TestNext(t *testing.T) {
	for _, c := range known {
		l := tree(c.words)
		if !settle.Settled(l) || !settle.Settled(tree(c.comes)) {
			t.Fatalf("%s, or %s, is not settled", c.words, c.comes)
		}
		isNext(t, l, madeOf(t, c.move), tree(c.comes), c.act)
	}
}

func TestRefuse(t *testing.T) {
	for _, c := range refused {
		l := tree(c.words)
		if !settle.Settled(l) || !settle.Settled(tree(c.comes)) {
			t.Fatalf("%s, or %s, is not settled", c.words, c.comes)
		}
		isRefused(t, l, c.at, tree(c.comes))
	}
}

func TestPut(t *testing.T) {
	for _, c := range putAs {
		if got := step.Put(tree(c.words), c.at, tree(c.put)); !slices.Equal(got, tree(c.want)) {
			t.Errorf("P13.1: Put(%s, %d, %s) = %s, want %s", c.words, c.at, c.put, text(got), c.want)
		}
	}
	for _, c := range putNone {
		for _, put := range []string{"", "c", "seq c d"} {
			if got := step.Put(tree(c.words), c.at, tree(put)); !slices.Equal(got, tree(c.words)) {
				t.Errorf("P13.1: Put(%s, %d, %s) = %s, though no tree begins there", c.words, c.at, put, text(got))
			}
		}
	}
}

// Where a tree begins goes by kinds alone, and what is put there by nothing.
func TestPutWhatIsNotRight(t *testing.T) {
	odd, named, signed := api.Node{Kind: 99}, api.Node{Kind: api.Act}, api.Node{Kind: api.Seq, Name: "a", Sign: -1}
	l := []api.Node{signed, named, odd}
	if got := step.Put(l, 1, []api.Node{odd, signed}); !slices.Equal(got, []api.Node{signed, odd, signed, odd}) {
		t.Errorf("P13.1: Put(.., 1, ..) = %v", got)
	}
	// A kind that there is not begins no tree, and none is made of it.
	for _, at := range []int{0, 2} {
		if got := step.Put(l, at, tree("b")); !slices.Equal(got, l) {
			t.Errorf("P13.1: Put(.., %d, ..) = %v", at, got)
		}
	}
	whole := []api.Node{signed, named, named}
	if got := step.Put(whole, 0, []api.Node{odd}); !slices.Equal(got, []api.Node{odd}) {
		t.Errorf("P13.1: Put(.., 0, ..) = %v", got)
	}
}

// around is moves at all places of a row of that length, and some beside it, in each way, and some that are none.
func around(length int) []api.Move {
	places := []int{math.MinInt, -length - 1, -2, -1, length, length + 1, 2*length + 1, math.MaxInt}
	for at := range length {
		places = append(places, at)
	}
	var l []api.Move
	for _, at := range places {
		for _, how := range []int{math.MinInt, -1, 0, api.Do, api.Left, api.Right, api.Go, api.Stop, api.Stop + 1, math.MaxInt} {
			l = append(l, api.Move{At: at, How: how})
		}
	}
	return l
}

// wrong is rows with nodes that are not as they are to be.
var wrong = [][]api.Node{
	{{}}, {{Kind: -1}}, {{Kind: api.End + 1}}, {{Kind: math.MaxInt}}, {{Kind: math.MinInt}},
	{{Kind: api.Act}}, {{Kind: api.Act, Name: "skip"}}, {{Kind: api.Act, Name: "toolongaa"}}, {{Kind: api.Act, Name: "A"}}, {{Kind: api.Act, Name: "a", Sign: api.Tick}},
	{{Kind: api.Yield, Name: "a"}}, {{Kind: api.Yield, Sign: api.Bang}}, {{Kind: api.Over}}, {{Kind: api.Over, Sign: api.Query + 1}},
	{{Kind: api.Alt, Name: "a"}, {Kind: api.Yield}, {Kind: api.Yield}}, {{Kind: api.Alt}, {Kind: api.Yield}, {Kind: 99}}, {{Kind: api.Pair}, {Kind: api.Act}, {Kind: api.Skip}},
	{{Kind: api.Par}, {Kind: api.Yield}, {Kind: api.Act}}, {{Kind: api.Par}, {Kind: api.Yield}, {}},
}

// none is rows that have no move: of some something else comes of itself, others have ended, or are no trees that go on.
var none = []string{
	"", "ok", "!", "?", "end-ok a", "end-? skip", "block end-? a", "skip", "throw", "seq skip a", "seq ! a", "hand throw a", "hand ! a", "par skip a", "par a throw", "par ! ?", "block end-! a", "going ok a", "seq end-ok a pair b c", "stack end-! a b",
	"par yield seq throw a", "alt a", "pair a", "a b", "yield yield", "seq a", "alt a b c", "block a", "a !", "seq a !", "alt a !", "pair a !", "par a pair b c", "stack a b", "hand pair a b pair c d", "going pair a b c", "end-!", "alt a pair b c",
}

// Each move that there is not, is not done: of wrong rows, of rows that have none, and of those that have some.
func TestNoMove(t *testing.T) {
	rows := slices.Clone(wrong)
	for _, words := range none {
		rows = append(rows, tree(words))
	}
	for _, c := range known {
		rows = append(rows, tree(c.words))
	}
	done := 0
	for _, l := range rows {
		for _, m := range around(len(l)) {
			switch is := move.Is(l, m); {
			case !is:
				isNoMove(t, l, m)
			case m.How != api.Do:
				isNotRefused(t, l, m)
			default:
				done++
			}
		}
	}
	if done < 20 {
		t.Errorf("only %d of these moves do an action", done)
	}
}

// A few moves that are none, by hand.
func TestNoMoveByHand(t *testing.T) {
	for _, c := range [][2]string{
		{"a", "go 0"}, {"a", "do 1"}, {"a", "stop 0"}, {"yield", "do 0"}, {"yield", "left 0"}, {"alt a b", "do 1"}, {"alt a b", "do 0"}, {"alt a b", "go 0"}, {"pair a b", "do 1"}, {"pair a b", "left 0"},
		{"seq a b", "do 0"}, {"seq a b", "do 2"}, {"par a b", "do 0"}, {"hand a b", "do 2"}, {"going a b", "do 2"}, {"going a b", "go 0"}, {"stack going a b c", "do 3"},
		{"block pair a b", "stop 1"}, {"block going yield b", "stop 2"}, {"block par pair a b pair c d", "stop 2"}, {"block par pair a b end-ok c", "stop 2"}, {"block par pair a b end-! c", "do 6"},
	} {
		isNoMove(t, tree(c[0]), madeOf(t, c[1]))
	}
}

// The chapter's own examples.
func TestExamples(t *testing.T) {
	l := row.Make(api.Node{Kind: api.Seq}, tree("a"), tree("throw"))
	isNext(t, l, api.Move{At: 1, How: api.Do}, []api.Node{{Kind: api.Over, Sign: api.Bang}}, "a")
	l = tree("block pair a b")
	isNext(t, l, api.Move{At: 1, How: api.Go}, tree("block going a b"), "")
}
