package row_test

import (
	"math"
	"slices"
	"testing"

	"redress/api"
	"redress/row"
)

// kinds is all kinds by their arity.
var kinds = [][]int{
	{api.Act, api.Skip, api.Throw, api.Yield, api.Over},
	{api.Block, api.End},
	{api.Seq, api.Alt, api.Par, api.Hand, api.Pair, api.Going, api.Stack},
}

// The far ones are there because a table must not be read with them.
var noKinds = []int{0, -1, -2, -api.Seq, api.End + 1, api.End + 2, 99, 255, 256, 256 + api.Act, 1<<32 + api.Seq, math.MinInt32, math.MaxInt32, math.MinInt, math.MinInt + api.Block, math.MaxInt}

var signs = []int{api.Tick, api.Bang, api.Query}

var noSigns = []int{0, -1, -2, api.Query + 1, 256 + api.Tick, 1<<32 + api.Bang, math.MinInt, math.MaxInt}

func TestArity(t *testing.T) {
	told := 0
	for arity, l := range kinds {
		for _, kind := range l {
			told++
			if got := row.Arity(kind); got != arity {
				t.Errorf("P3.1: Arity(%d) = %d, want %d", kind, got, arity)
			}
		}
	}
	if told != api.End {
		t.Errorf("the list of kinds has %d of %d", told, api.End)
	}
	for _, kind := range noKinds {
		if got := row.Arity(kind); got != -1 {
			t.Errorf("P3.1: Arity(%d) = %d, want -1", kind, got)
		}
	}
}

func TestRightOfEachKind(t *testing.T) {
	for _, kind := range slices.Concat(kinds...) {
		named, signed := kind == api.Act, kind == api.Over || kind == api.End
		for _, c := range []struct {
			n    api.Node
			want bool
		}{
			{api.Node{Kind: kind}, !named && !signed},
			{api.Node{Kind: kind, Name: "a"}, named},
			{api.Node{Kind: kind, Sign: api.Tick}, signed},
			{api.Node{Kind: kind, Sign: api.Bang}, signed},
			{api.Node{Kind: kind, Sign: api.Query}, signed},
			{api.Node{Kind: kind, Name: "a", Sign: api.Tick}, false},
			{api.Node{Kind: kind, Name: "a", Sign: -1}, false},
			{api.Node{Kind: kind, Name: "skip", Sign: api.Query}, false},
			{api.Node{Kind: kind, Name: " "}, false},
		} {
			if got := row.Right(c.n); got != c.want {
				t.Errorf("P3.1: Right(%v) = %v", c.n, got)
			}
		}
		for _, s := range noSigns {
			// Where no sign belongs, none is 0.
			want := s == 0 && !named && !signed
			if got := row.Right(api.Node{Kind: kind, Sign: s}); got != want {
				t.Errorf("P3.1: Right of kind %d with sign %d = %v", kind, s, got)
			}
			if row.Right(api.Node{Kind: kind, Name: "a", Sign: s}) != (s == 0 && named) {
				t.Errorf("P3.1: Right of kind %d with a name and sign %d", kind, s)
			}
		}
	}
}

func TestRightOfNoKind(t *testing.T) {
	for _, kind := range noKinds {
		for _, n := range []api.Node{{}, {Name: "a"}, {Sign: api.Tick}, {Name: "a", Sign: api.Tick}} {
			n.Kind = kind
			if row.Right(n) {
				t.Errorf("P3.1: Right(%v) = true", n)
			}
		}
	}
}

func TestRightNames(t *testing.T) {
	for letter := 'a'; letter <= 'z'; letter++ {
		for _, name := range []string{string(letter), string(letter) + "bcdefgh", "abcdefg" + string(letter), "abc" + string(letter) + "ef"} {
			if !row.Right(api.Node{Kind: api.Act, Name: name}) {
				t.Errorf("P3.1: %q is no name", name)
			}
		}
	}
	for _, name := range []string{
		"ski", "skippp", "skipskip", "xskip", "skipa", "kip", "thro", "throwww", "thrown", "throwaa", "hrow", "yiel", "yielddd", "yields", "yieldyie", "ield",
		"act", "alt", "seq", "par", "hand", "block", "pair", "over", "going", "stack", "end", "ok", "zzzzzzzz",
	} {
		if !row.Right(api.Node{Kind: api.Act, Name: name}) {
			t.Errorf("P3.1: %q is no name", name)
		}
	}
}

func TestWrongNames(t *testing.T) {
	for _, name := range []string{
		"", "skip", "throw", "yield", "skipp", "throww", "yieldd",
		"abcdefghi", "aaaaaaaaaaaaaaaa", "A", "Z", "aB", "Skip", "SKIP", "0", "a0", "a1b", "_", "a_b", "-", "a-b", "a b", " a", "a ", "\ta", "a\n", ".", ";", "a;b", "\x00", "a\x00",
		"`", "{", "@", "[", "\x7f", "\x80", "\xff", "a\xff", "\xe1", "\u00e9", "a\u00e9", "\u0430", "\uff41", "\U0001d41a", "\ufffd",
	} {
		if row.Right(api.Node{Kind: api.Act, Name: name}) {
			t.Errorf("P3.1: %q is a name", name)
		}
	}
	for b := range 256 {
		for _, name := range []string{string([]byte{byte(b)}), string([]byte{'a', byte(b)}), string([]byte{byte(b), 'z'})} {
			if got := row.Right(api.Node{Kind: api.Act, Name: name}); got != (b >= 'a' && b <= 'z') {
				t.Errorf("P3.1: %q: %v", name, got)
			}
		}
	}
}

func TestNamesAreAsLongAsTheyMayBe(t *testing.T) {
	for long := range 40 {
		name := string(slices.Repeat([]byte{'q'}, long))
		if got := row.Right(api.Node{Kind: api.Act, Name: name}); got != (long >= 1 && long <= api.MaxName) {
			t.Errorf("P3.1: a name of %d letters: %v", long, got)
		}
	}
	// Of these letters each is two bytes long.
	if row.Right(api.Node{Kind: api.Act, Name: "\u00e9\u00e9\u00e9\u00e9"}) {
		t.Error("P3.1: letters that are not a to z make a name")
	}
}

func TestRightSigns(t *testing.T) {
	for _, kind := range []int{api.Over, api.End} {
		for _, s := range signs {
			if !row.Right(api.Node{Kind: kind, Sign: s}) || row.Right(api.Node{Kind: kind, Sign: s, Name: "b"}) {
				t.Errorf("P3.1: kind %d with sign %d", kind, s)
			}
		}
		for _, s := range noSigns {
			if row.Right(api.Node{Kind: kind, Sign: s}) {
				t.Errorf("P3.1: kind %d with sign %d is right", kind, s)
			}
		}
	}
}
