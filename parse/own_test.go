package parse_test

import (
	"slices"
	"testing"

	"redress/api"
	"redress/parse"
)

// spoil writes into all that a row may reach.
func spoil(l []api.Node) {
	for k := range l[:cap(l)] {
		l[:cap(l)][k] = api.Node{Kind: -5, Name: "spoilt", Sign: 9}
	}
}

func TestNamesAreTheCallersOwn(t *testing.T) {
	for _, s := range []string{"skip", "throw", "yield", "skipp", "throww", "yieldd", "a", "", "Skip"} {
		want, got := parse.Name(s), parse.Name(s)
		kept := slices.Clone(want)
		spoil(got)
		if !slices.Equal(want, kept) || !slices.Equal(parse.Name(s), kept) {
			t.Errorf("R6: to write into what Name(%q) told changed what is told", s)
		}
	}
}

func TestTreesAreTheCallersOwn(t *testing.T) {
	for _, s := range []string{"a", "skip", "[skipp]", "a;a", "[a/b ; c/d] | e", "((a + b)) > yield"} {
		want, _, _ := parse.Parse(s)
		got, _, _ := parse.Parse(s)
		kept := slices.Clone(want)
		spoil(got)
		again, at, errno := parse.Parse(s)
		if !slices.Equal(want, kept) || !slices.Equal(again, kept) || at != len(s) || errno != api.OK {
			t.Errorf("R6: to write into what Parse(%q) told changed what is told", s)
		}
	}
}

func TestPrintLeavesTheRow(t *testing.T) {
	spare := api.Node{Kind: api.Yield, Name: "spare", Sign: 5}
	for _, was := range [][]api.Node{{}, {a}, {seq, a, b}, {par, block, seq, pair, a, b, pair, c, d, e}, {pair, a, b}, {seq, a}, {seq, over, a}} {
		full := append(slices.Clone(was), spare, spare)
		l := full[:len(was)]
		text, is := parse.Print(l)
		if again, isAgain := parse.Print(l); again != text || isAgain != is {
			t.Errorf("R7: Print(%v) = %q, then %q", was, text, again)
		}
		if !slices.Equal(full, append(slices.Clone(was), spare, spare)) {
			t.Errorf("R5: Print changed %v", was)
		}
	}
}
