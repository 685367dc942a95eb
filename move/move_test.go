package move_test

import (
	"math"
	"slices"
	"strconv"
	"strings"
	"testing"

	"redress/api"
	"redress/move"
	"redress/settle"
)

// known is settled trees, and their moves in order.
var known = []struct{ words, moves string }{
	// Each kind alone; what has ended has no move.
	{"a", "do 0"},
	{"yield", "go 0, stop 0"},
	{"alt a b", "left 0, right 0"},
	{"pair a b", "go 0, stop 0"},
	{"ok", ""},
	{"!", ""},
	{"?", ""},
	{"end-ok a", ""},
	{"end-! alt a yield", ""},
	{"end-? skip", ""},
	// What has not begun has no move: the second one of a Seq, a Hand, a Going and a Stack, both of an Alt and of a Pair.
	{"seq a b", "do 1"},
	{"seq yield yield", "go 1, stop 1"},
	{"seq alt a b a", "left 1, right 1"},
	{"hand a yield", "do 1"},
	{"alt alt a b yield", "left 0, right 0"},
	{"alt pair a b pair c d", "left 0, right 0"},
	{"pair alt a b yield", "go 0, stop 0"},
	{"seq pair a b pair c d", "go 1, stop 1"},
	{"going yield a", "go 1, stop 1"},
	{"going alt a b yield", "left 1, right 1"},
	{"stack going a b yield", "do 2"},
	// Both of a Par have theirs, the first one's ahead.
	{"par a b", "do 1, do 2"},
	{"par a yield", "do 1, go 2, stop 2"},
	{"par yield a", "go 1, stop 1, do 2"},
	{"par alt a b alt c d", "left 1, right 1, left 4, right 4"},
	{"par ! a", "do 2"},
	{"par yield ?", "go 1, stop 1"},
	{"par par alt a b yield seq c d", "left 2, right 2, go 5, stop 5, do 7"},
	{"par pair a b pair c d", "go 1, stop 1, go 4, stop 4"},
	{"par seq a b hand yield c", "do 2, go 5, stop 5"},
	// In a block only what is beside what has thrown may stop; how else a move is done is no matter of blocks.
	{"block pair a b", "go 1"},
	{"block going yield a", "go 2"},
	{"block going a b", "do 2"},
	{"block alt pair a b pair c d", "left 1, right 1"},
	{"block going alt a b c", "left 2, right 2"},
	{"block par pair a b pair c d", "go 2, go 5"},
	{"block par pair a b end-! skip", "go 2, stop 2"},
	{"block par end-! skip pair a b", "go 4, stop 4"},
	{"block par pair a b end-ok c", "go 2"},
	{"block par pair a b end-? skip", "go 2"},
	{"block par going yield c end-! skip", "go 3, stop 3"},
	{"block par going a b end-! skip", "do 3"},
	{"block par alt pair a b pair c d end-! skip", "left 2, right 2"},
	{"block par going par ! yield a pair b c", "go 5, stop 5, go 7, stop 7"},
	{"block par going hand par ! yield a b pair c d", "go 6, stop 6, go 9"},
	{"block going par ? yield a", "go 4"},
	{"block end-? a", ""},
	// Within the innermost block alone.
	{"par block pair a b yield", "go 2, go 5, stop 5"},
	{"par ! block pair a b", "go 3"},
	{"block par end-! a going block pair b c d", "go 6"},
	{"block par end-! a going seq block par pair b c end-! d yield e", "go 8, stop 8"},
	{"hand block par pair a b end-! c d", "go 3, stop 3"},
}

// none is rows that have no move: of some something else comes of itself, others are no trees that go on.
var none = []string{
	"", "skip", "throw", "seq skip a", "seq ! a", "hand throw a", "hand ! a", "par skip a", "par a throw", "par ! ?", "block end-! a", "block end-ok a", "going ok a", "going throw a", "seq end-ok a pair b c", "par end-! a end-ok b", "stack end-! a b",
	"par yield seq throw a", "alt a", "pair a", "a b", "yield yield", "seq a", "par a", "alt a b c", "block a", "block yield", "a !", "seq a !", "alt a !", "pair a !", "par a pair b c", "par yield end-! a", "stack a b", "stack pair a b !", "hand pair a b pair c d", "going pair a b c", "end-!", "alt a pair b c",
}

// wrong is rows with nodes that are not as they are to be.
var wrong = [][]api.Node{
	{{}}, {{Kind: -1}}, {{Kind: api.End + 1}}, {{Kind: math.MaxInt}}, {{Kind: math.MinInt}},
	{{Kind: api.Act}}, {{Kind: api.Act, Name: "skip"}}, {{Kind: api.Act, Name: "toolongaa"}}, {{Kind: api.Act, Name: "A"}}, {{Kind: api.Act, Name: "a", Sign: api.Tick}},
	{{Kind: api.Yield, Name: "a"}}, {{Kind: api.Yield, Sign: api.Bang}}, {{Kind: api.Over}}, {{Kind: api.Over, Sign: api.Query + 1}},
	{{Kind: api.Alt, Name: "a"}, {Kind: api.Yield}, {Kind: api.Yield}}, {{Kind: api.Alt}, {Kind: api.Yield}, {Kind: 99}}, {{Kind: api.Pair}, {Kind: api.Act}, {Kind: api.Skip}},
	{{Kind: api.Par}, {Kind: api.Yield}, {Kind: api.Act}}, {{Kind: api.Par}, {Kind: api.Yield}, {}},
}

// hows is the words that say how a move is done.
var hows = map[string]int{"do": 1, "left": 2, "right": 3, "go": 4, "stop": 5}

// moves is those that these words are, with commas between.
func moves(t *testing.T, words string) []api.Move {
	t.Helper()
	var l []api.Move
	for _, part := range strings.Split(words, ", ") {
		if words == "" {
			break
		}
		how, place, _ := strings.Cut(part, " ")
		at, e := strconv.Atoi(place)
		if e != nil || hows[how] == 0 {
			t.Fatalf("%q is no move", part)
		}
		l = append(l, api.Move{At: at, How: hows[how]})
	}
	return l
}

// around is moves at all places of a row of that length, and some beside it, in each way, and some that are none.
func around(length int) []api.Move {
	places := []int{math.MinInt, -length - 1, -2, -1, length, length + 1, 2*length + 1, math.MaxInt}
	for at := range length {
		places = append(places, at)
	}
	var l []api.Move
	for _, at := range places {
		for _, how := range []int{math.MinInt, -1, 0, 1, 2, 3, 4, 5, 6, 7, math.MaxInt} {
			l = append(l, api.Move{At: at, How: how})
		}
	}
	return l
}

// numbers is some around each round of so many, on both sides of 0.
func numbers(many int) []int {
	l := []int{math.MinInt, math.MinInt + 1, -1 << 31, 1 << 31, math.MaxInt - 1, math.MaxInt}
	for n := -3*many - 1; n <= 3*many+1; n++ {
		l = append(l, n)
	}
	return l
}

// picked is the number, of so many, at which it comes out to count from 0 on to n, round and round.
func picked(n, many int) int {
	if n >= 0 {
		return n % many
	}
	// From -1 on it is counted from the last one down.
	return many - 1 - (-(n + 1))%many
}

// has holds all that is told of l against these moves.
func has(t *testing.T, l []api.Node, want []api.Move) {
	t.Helper()
	if got := move.Enabled(l); !slices.Equal(got, want) {
		t.Fatalf("P12.1: Enabled(%s) = %v, want %v", text(l), got, want)
	}
	for _, m := range around(len(l)) {
		if got := move.Is(l, m); got != slices.Contains(want, m) {
			t.Fatalf("P12.1: Is(%s, %v) = %v", text(l), m, got)
		}
	}
	for _, n := range numbers(len(want)) {
		var m api.Move
		e := api.ErrMoveNone
		if len(want) > 0 {
			m, e = want[picked(n, len(want))], api.OK
		}
		if got, err := move.Pick(l, n); got != m || err != e {
			t.Fatalf("P12.2: Pick(%s, %d) = %v, %d, want %v, %d", text(l), n, got, err, m, e)
		}
	}
}

func TestKnownTrees(t *testing.T) {
	for _, c := range known {
		l := tree(c.words)
		if !settle.Settled(l) {
			t.Fatalf("%s is not settled", c.words)
		}
		has(t, l, moves(t, c.moves))
	}
}

func TestWhatHasNoMove(t *testing.T) {
	for _, words := range none {
		has(t, tree(words), nil)
	}
	for _, l := range wrong {
		has(t, l, nil)
	}
}

// The chapter's own numbers.
func TestPickOfThree(t *testing.T) {
	l := tree("par a yield")
	three := moves(t, "do 1, go 2, stop 2")
	for n, k := range map[int]int{-4: 2, -3: 0, -2: 1, -1: 2, 0: 0, 1: 1, 2: 2, 3: 0, 4: 1, 5: 2, 300000: 0, 300001: 1, -300001: 2} {
		if got, e := move.Pick(l, n); got != three[k] || e != api.OK {
			t.Errorf("P12.2: Pick(%s, %d) = %v, %d, want %v", text(l), n, got, e, three[k])
		}
	}
}

func TestText(t *testing.T) {
	for want, m := range map[string]api.Move{
		"do 0": {How: api.Do}, "left 0": {How: api.Left}, "right 0": {How: api.Right}, "go 0": {How: api.Go}, "stop 0": {How: api.Stop},
		"do 1": {At: 1, How: api.Do}, "left 10": {At: 10, How: api.Left}, "right 199": {At: 199, How: api.Right}, "go 65536": {At: 1 << 16, How: api.Go}, "stop 7": {At: 7, How: api.Stop},
		"do -1": {At: -1, How: api.Do}, "left -10": {At: -10, How: api.Left}, "right -3": {At: -3, How: api.Right},
		"go -9223372036854775808": {At: math.MinInt64, How: api.Go}, "stop 9223372036854775807": {At: math.MaxInt64, How: api.Stop},
	} {
		if got := move.Text(m); got != want {
			t.Errorf("P12.2: Text(%v) = %q, want %q", m, got, want)
		}
	}
}

func TestTextOfWhatIsDoneInNoWay(t *testing.T) {
	for _, how := range []int{math.MinInt, -6, -5, -1, 0, 6, 7, 256 + api.Do, math.MaxInt} {
		for _, at := range []int{math.MinInt, -1, 0, 1, math.MaxInt} {
			if got := move.Text(api.Move{At: at, How: how}); got != "" {
				t.Errorf("P12.2: Text of a How %d is %q", how, got)
			}
		}
	}
}
