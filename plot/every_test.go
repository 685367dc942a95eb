package plot_test

import (
	"slices"
	"testing"

	"redress/api"
	"redress/plot"
	"redress/row"
)

// every is all rows of up to most of these nodes, trees and others.
func every(most int, from ...api.Node) [][]api.Node {
	all, last := [][]api.Node{{}}, [][]api.Node{{}}
	for range most {
		var next [][]api.Node
		for _, l := range last {
			for _, n := range from {
				next = append(next, append(slices.Clone(l), n))
			}
		}
		all, last = append(all, next...), next
	}
	return all
}

// everyRow is all rows of up to 7 nodes of each arity, and shorter ones of all kinds.
func everyRow() [][]api.Node {
	return slices.Concat(
		every(7, a, block, seq, yield),
		every(7, skip, end, pair),
		every(3, a, skip, throw, yield, seq, alt, par, hand, block, pair, over, going, stack, end, none),
	)
}

// above is the places of the nodes of which the tree goes on behind place k: those above it.
func above(l []api.Node, k int) []int {
	var places []int
	for j := range k {
		if j+row.Size(l[j:]) > k {
			places = append(places, j)
		}
	}
	return places
}

// stands is the point of node k of the tree l.
func stands(l []api.Node, k int) complex128 {
	leaves := row.Count(l[:k], api.Act, api.Skip, api.Throw, api.Yield, api.Over)
	return complex(float64(leaves), float64(len(above(l, k))))
}

func TestEveryRow(t *testing.T) {
	trees := 0
	for _, l := range everyRow() {
		var points []complex128
		var lines [][2]complex128
		var box complex128
		is := len(l) > 0 && row.Size(l) == len(l)
		if is {
			trees++
			for k := range l {
				points = append(points, stands(l, k))
				if up := above(l, k); k > 0 {
					lines = append(lines, [2]complex128{points[up[len(up)-1]], points[k]})
				}
			}
			box = complex(real(stands(l, len(l))), float64(row.Depth(l)))
		}
		if got := plot.Points(l); !slices.Equal(got, points) {
			t.Fatalf("P9.1: Points(%v) = %v, want %v", l, got, points)
		}
		if got := plot.Box(l); got != box {
			t.Fatalf("P9.1: Box(%v) = %v, want %v", l, got, box)
		}
		if got := plot.Lines(l); !slices.Equal(got, lines) {
			t.Fatalf("P9.2: Lines(%v) = %v, want %v", l, got, lines)
		}
		for k := -1; k <= len(l); k++ {
			var want []int
			if is && k >= 0 && k < len(l) {
				want = above(l, k)
			}
			if got := plot.Over(l, k); !slices.Equal(got, want) {
				t.Fatalf("P9.2: Over(%v, %d) = %v, want %v", l, k, got, want)
			}
		}
	}
	if trees < 500 {
		t.Errorf("only %d trees were tried", trees)
	}
}

// Each point of a grid that is wider and higher than the tree is asked for, and each that lies between two of it.
func TestAtEveryPoint(t *testing.T) {
	for _, l := range everyRow() {
		stand := map[complex128]int{}
		if row.Size(l) == len(l) {
			for k := range l {
				stand[stands(l, k)] = k
			}
		}
		for right := -1.0; right <= 5; right += 0.5 {
			for down := -1.0; down <= 6; down += 0.5 {
				p := complex(right, down)
				want, known := stand[p]
				if at, is := plot.At(l, p); at != want || is != known {
					t.Fatalf("P9.2: At(%v, %v) = %d, %v, want %d, %v", l, p, at, is, want, known)
				}
			}
		}
	}
}
