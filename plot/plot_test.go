package plot_test

import (
	"math"
	"slices"
	"testing"

	"redress/api"
	"redress/plot"
)

var (
	a     = api.Node{Kind: api.Act, Name: "a"}
	b     = api.Node{Kind: api.Act, Name: "b"}
	skip  = api.Node{Kind: api.Skip}
	throw = api.Node{Kind: api.Throw}
	yield = api.Node{Kind: api.Yield}
	seq   = api.Node{Kind: api.Seq}
	alt   = api.Node{Kind: api.Alt}
	par   = api.Node{Kind: api.Par}
	hand  = api.Node{Kind: api.Hand}
	block = api.Node{Kind: api.Block}
	pair  = api.Node{Kind: api.Pair}
	over  = api.Node{Kind: api.Over, Sign: api.Bang}
	going = api.Node{Kind: api.Going}
	stack = api.Node{Kind: api.Stack}
	end   = api.Node{Kind: api.End, Sign: api.Query}
	none  = api.Node{Kind: 99}
)

func nodes(l ...api.Node) []api.Node { return l }

// known is trees whose points were worked out by hand, with the place of the node behind which each stands (-1 of the first one).
var known = []struct {
	l      []api.Node
	points []complex128
	behind []int
	box    complex128
}{
	{nodes(a), []complex128{0}, []int{-1}, 1 + 1i},
	{nodes(over), []complex128{0}, []int{-1}, 1 + 1i},
	{nodes(block, skip), []complex128{0, 1i}, []int{-1, 0}, 1 + 2i},
	{nodes(end, end, throw), []complex128{0, 1i, 2i}, []int{-1, 0, 1}, 1 + 3i},
	{nodes(seq, a, b), []complex128{0, 1i, 1 + 1i}, []int{-1, 0, 0}, 2 + 2i},
	// The document's example.
	{nodes(seq, a, alt, b, skip), []complex128{0, 1i, 1 + 1i, 1 + 2i, 2 + 2i}, []int{-1, 0, 0, 2, 2}, 3 + 3i},
	{nodes(seq, alt, b, skip, a), []complex128{0, 1i, 2i, 1 + 2i, 2 + 1i}, []int{-1, 0, 1, 1, 0}, 3 + 3i},
	{nodes(par, block, pair, a, b, yield), []complex128{0, 1i, 2i, 3i, 1 + 3i, 2 + 1i}, []int{-1, 0, 1, 2, 2, 0}, 3 + 4i},
	{nodes(hand, hand, hand, a, b, a, b), []complex128{0, 1i, 2i, 3i, 1 + 3i, 2 + 2i, 3 + 1i}, []int{-1, 0, 1, 2, 2, 1, 0}, 4 + 4i},
	{nodes(hand, a, hand, b, hand, a, b), []complex128{0, 1i, 1 + 1i, 1 + 2i, 2 + 2i, 2 + 3i, 3 + 3i}, []int{-1, 0, 0, 2, 2, 4, 4}, 4 + 4i},
	{nodes(stack, going, a, end, b, block, over), []complex128{0, 1i, 2i, 1 + 2i, 1 + 3i, 2 + 1i, 2 + 2i}, []int{-1, 0, 1, 1, 3, 0, 5}, 3 + 4i},
}

// noTrees is rows that are not one tree: of none, cut short, with more behind, or with a node of no kind.
var noTrees = [][]api.Node{
	nil, {}, {seq}, {block}, {seq, a}, {seq, a, alt, b}, {a, a}, {seq, a, b, skip}, {block, a, block, a},
	{none}, {api.Node{}}, {api.Node{Kind: -1}}, {api.Node{Kind: api.End + 1}}, {seq, a, none}, {block, none}, {a, none}, {none, a},
}

func TestPoints(t *testing.T) {
	for _, c := range known {
		if got := plot.Points(c.l); !slices.Equal(got, c.points) {
			t.Errorf("P9.1: Points(%v) = %v, want %v", c.l, got, c.points)
		}
		if got := plot.Box(c.l); got != c.box {
			t.Errorf("P9.1: Box(%v) = %v, want %v", c.l, got, c.box)
		}
	}
}

func TestLines(t *testing.T) {
	for _, c := range known {
		var want [][2]complex128
		for k := 1; k < len(c.l); k++ {
			want = append(want, [2]complex128{c.points[c.behind[k]], c.points[k]})
		}
		if got := plot.Lines(c.l); !slices.Equal(got, want) {
			t.Errorf("P9.2: Lines(%v) = %v, want %v", c.l, got, want)
		}
	}
}

func TestOver(t *testing.T) {
	for _, c := range known {
		for k := range c.l {
			var want []int
			for up := c.behind[k]; up >= 0; up = c.behind[up] {
				want = append([]int{up}, want...)
			}
			if got := plot.Over(c.l, k); !slices.Equal(got, want) {
				t.Errorf("P9.2: Over(%v, %d) = %v, want %v", c.l, k, got, want)
			}
		}
		for _, k := range []int{-1, -len(c.l), len(c.l), len(c.l) + 1, math.MaxInt, math.MinInt} {
			if got := plot.Over(c.l, k); len(got) != 0 {
				t.Errorf("P9.2: Over(%v, %d) = %v, want none", c.l, k, got)
			}
		}
	}
}

func TestAt(t *testing.T) {
	for _, c := range known {
		for k, p := range c.points {
			if at, is := plot.At(c.l, p); at != k || !is {
				t.Errorf("P9.2: At(%v, %v) = %d, %v, want %d", c.l, p, at, is, k)
			}
		}
	}
}

func TestAtNone(t *testing.T) {
	l := nodes(seq, a, alt, b, skip)
	nan, inf := math.NaN(), math.Inf(1)
	for _, p := range []complex128{
		1, 2, 2 + 1i, 2i, 3i, 3 + 2i, 3 + 3i, -1, -1i, 1 - 1i, -1 + 1i, 0.5, 0.5 + 1i, 1 + 1.5i, 1e-300, 1 + 1e-9 + 1i, 1e300 + 1e300i,
		complex(nan, 0), complex(0, nan), complex(nan, nan), complex(inf, 0), complex(0, inf), complex(-inf, -inf),
	} {
		if at, is := plot.At(l, p); at != 0 || is {
			t.Errorf("P9.2: At(%v, %v) = %d, %v, want none", l, p, at, is)
		}
	}
	if at, is := plot.At(l, complex(math.Copysign(0, -1), 1)); at != 1 || !is {
		t.Errorf("P9.2: At(%v, -0+i) = %d, %v: a nought is a nought", l, at, is)
	}
}

func TestNoTree(t *testing.T) {
	for _, l := range noTrees {
		if got := plot.Points(l); len(got) != 0 {
			t.Errorf("P9.1: Points(%v) = %v, want none", l, got)
		}
		if got := plot.Box(l); got != 0 {
			t.Errorf("P9.1: Box(%v) = %v, want 0", l, got)
		}
		if got := plot.Lines(l); len(got) != 0 {
			t.Errorf("P9.2: Lines(%v) = %v, want none", l, got)
		}
		for k := -1; k <= len(l); k++ {
			if got := plot.Over(l, k); len(got) != 0 {
				t.Errorf("P9.2: Over(%v, %d) = %v, want none", l, k, got)
			}
		}
		for _, p := range []complex128{0, 1i, 1, 1 + 1i} {
			if at, is := plot.At(l, p); at != 0 || is {
				t.Errorf("P9.2: At(%v, %v) = %d, %v, want none", l, p, at, is)
			}
		}
	}
}

// What a tree is goes by its kinds alone: what is not Right, or longer than a term, has points as well.
func TestTreesThatAreNotRight(t *testing.T) {
	l := nodes(api.Node{Kind: api.Seq, Name: "a", Sign: 7}, api.Node{Kind: api.Act}, api.Node{Kind: api.Over, Sign: -1})
	if got := plot.Points(l); !slices.Equal(got, []complex128{0, 1i, 1 + 1i}) {
		t.Errorf("P9.1: Points(%v) = %v", l, got)
	}
	if got := plot.Box(l); got != 2+2i {
		t.Errorf("P9.1: Box(%v) = %v", l, got)
	}
}

func TestTurn(t *testing.T) {
	for _, c := range []struct{ p, box, want complex128 }{
		{0, 1 + 1i, 0},
		{0, 4 + 4i, 3},
		{3 + 2i, 4 + 4i, 2i},
		{2i, 4 + 4i, 3 + 2i},
		{1 + 1i, 3 + 2i, 1 + 1i},
		{5 - 7i, 3 + 2i, -3 - 7i},
		{-2 + 9i, 0, 1 + 9i},
		{0.25 + 0.5i, 2, 0.75 + 0.5i},
		{1 + 3i, 4.5 - 9i, 2.5 + 3i},
		{0, 0, -1},
		{complex(0, math.Inf(-1)), 4, complex(3, math.Inf(-1))},
		{complex(math.Inf(1), 2), 4, complex(math.Inf(-1), 2)},
	} {
		if got := plot.Turn(c.p, c.box); got != c.want {
			t.Errorf("P9.3: Turn(%v, %v) = %v, want %v", c.p, c.box, got, c.want)
		}
	}
}

// Of the imaginary part, neither the box's nor the real one's is of account.
func TestTurnLeavesTheImaginaryPart(t *testing.T) {
	nan, inf := math.NaN(), math.Inf(1)
	for _, down := range []float64{0, math.Copysign(0, -1), 1, -3.5, inf, -inf, nan, math.MaxFloat64, math.SmallestNonzeroFloat64} {
		for _, right := range []float64{0, 2, inf, nan} {
			for _, box := range []complex128{0, 3 + 5i, complex(3, inf), complex(nan, nan)} {
				got := imag(plot.Turn(complex(right, down), box))
				if math.Float64bits(got) != math.Float64bits(down) {
					t.Errorf("P9.3: the imaginary part of Turn(%v%+vi, %v) = %v", right, down, box, got)
				}
			}
		}
	}
	if got := plot.Turn(complex(nan, 1), 4); !math.IsNaN(real(got)) {
		t.Errorf("P9.3: Turn of no number = %v", got)
	}
	if got := plot.Turn(2+1i, complex(3, inf)); got != 1i {
		t.Errorf("P9.3: Turn by a box without end below = %v", got)
	}
}
