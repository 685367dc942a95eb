package plot_test

import (
	"slices"
	"testing"

	"redress/api"
	"redress/plot"
	"redress/row"
)

func TestNoTwoAtOnePoint(t *testing.T) {
	for _, l := range everyRow() {
		points, box := plot.Points(l), plot.Box(l)
		seen := map[complex128]bool{}
		for k, p := range points {
			if seen[p] {
				t.Fatalf("P9.4: of %v two stand at %v", l, p)
			}
			seen[p] = true
			if real(p) < 0 || real(p) >= real(box) || imag(p) < 0 || imag(p) >= imag(box) {
				t.Fatalf("P9.4: %v of %v is not within %v", p, l, box)
			}
			if at, is := plot.At(l, p); at != k || !is {
				t.Fatalf("P9.2: At(%v, %v) = %d, %v, want %d", l, p, at, is, k)
			}
		}
	}
}

func TestTurnOfATurn(t *testing.T) {
	for right := -20; right <= 20; right++ {
		for down := -3; down <= 3; down++ {
			for _, wide := range []int{-7, 0, 1, 2, 15, 1 << 31} {
				p := complex(float64(right), float64(down))
				for _, box := range []complex128{complex(float64(wide), 0), complex(float64(wide), -4)} {
					turned := plot.Turn(p, box)
					if got := plot.Turn(turned, box); got != p {
						t.Errorf("P9.4: Turn of Turn(%v, %v) = %v", p, box, got)
					}
					if turned != complex(float64(wide-1-right), float64(down)) {
						t.Errorf("P9.3: Turn(%v, %v) = %v", p, box, turned)
					}
				}
			}
		}
	}
}

func TestTurnedPointsStandWithinTheBox(t *testing.T) {
	for _, c := range known {
		for _, p := range c.points {
			if q := plot.Turn(p, c.box); real(q) < 0 || real(q) >= real(c.box) || imag(q) != imag(p) {
				t.Errorf("P9.3: Turn(%v, %v) = %v", p, c.box, q)
			}
		}
	}
}

// The parts of a tree stand as they do alone, moved to the right and down.
func TestKidsStandAsAlone(t *testing.T) {
	for _, l := range everyRow() {
		if row.Size(l) != len(l) {
			continue
		}
		var want []complex128
		var from, box complex128 = 1i, 0
		if len(l) > 0 {
			want = append(want, 0)
		}
		for _, kid := range row.Kids(l) {
			for _, p := range plot.Points(kid) {
				want = append(want, from+p)
			}
			box = complex(real(box+plot.Box(kid)), max(imag(box), imag(plot.Box(kid))))
			from = complex(real(box), 1)
		}
		if got := plot.Points(l); !slices.Equal(got, want) {
			t.Fatalf("P9.1: Points(%v) = %v, want %v", l, got, want)
		}
		if got := plot.Box(l); len(l) > 1 && got != box+1i {
			t.Fatalf("P9.1: Box(%v) = %v, want %v", l, got, box+1i)
		}
	}
}

func TestOverLeadsAlongTheLines(t *testing.T) {
	for _, l := range everyRow() {
		points, lines := plot.Points(l), plot.Lines(l)
		for k := 1; k < len(points); k++ {
			line, up := lines[k-1], plot.Over(l, k)
			last := up[len(up)-1]
			if line != [2]complex128{points[last], points[k]} || up[0] != 0 || len(up) != int(imag(points[k])) {
				t.Fatalf("P9.2: of %v the line %v, but above %d stand %v", l, line, k, up)
			}
			if !slices.Equal(plot.Over(l, last), up[:len(up)-1]) {
				t.Fatalf("P9.2: of %v above %d stand %v, but above %d %v", l, k, up, last, plot.Over(l, last))
			}
		}
	}
}

// No limit is named for these rows: they may be longer, and deeper, than any term.
func TestLongRows(t *testing.T) {
	const deep = 1 << 16
	chain := append(slices.Repeat(nodes(block), deep-1), a)
	comb := append(slices.Repeat(nodes(seq), deep-1), slices.Repeat(nodes(b), deep)...)
	steps := append(slices.Repeat(nodes(par, a), deep-1), skip)
	for _, c := range []struct {
		name      string
		l         []api.Node
		box, last complex128
		over      int
	}{
		{"a chain", chain, 1 + deep*1i, (deep - 1) * 1i, deep - 1},
		{"a comb to the left", comb, deep + deep*1i, deep - 1 + 1i, 1},
		{"a comb to the right", steps, deep + deep*1i, deep - 1 + (deep-1)*1i, deep - 1},
	} {
		points, lines, k := plot.Points(c.l), plot.Lines(c.l), len(c.l)-1
		if plot.Box(c.l) != c.box || len(points) != len(c.l) || points[k] != c.last || len(lines) != k || lines[k-1][1] != c.last {
			t.Errorf("P9.1: of %s the box is %v, and of %d points", c.name, plot.Box(c.l), len(points))
		}
		if at, is := plot.At(c.l, c.last); at != k || !is {
			t.Errorf("P9.2: At of the last point of %s = %d, %v, want %d", c.name, at, is, k)
		}
		if got := plot.Over(c.l, k); len(got) != c.over {
			t.Errorf("P9.2: above the last node of %s stand %d, want %d", c.name, len(got), c.over)
		}
		for _, l := range [][]api.Node{c.l[:k], append(slices.Clone(c.l), a)} {
			if len(plot.Points(l)) != 0 || len(plot.Lines(l)) != 0 || len(plot.Over(l, k-1)) != 0 || plot.Box(l) != 0 {
				t.Errorf("P9.1: %s, cut short or with more behind, is still drawn", c.name)
			}
		}
	}
}
