package refuse_test

import (
	"slices"
	"strings"
	"testing"

	"redress/api"
	"redress/refuse"
)

// Nodes are written as letters here, so that rows are texts, and what is asked of them is told by the library.
var letters = map[byte]api.Node{'a': a, 'b': b, '+': alt, '!': throw, 's': seq, 'A': altA, 'T': throwBang}

func rowOf(s string) []api.Node {
	var l []api.Node
	for k := range len(s) {
		l = append(l, letters[s[k]])
	}
	return l
}

// every is all texts of up to most of these letters.
func every(from string, most int) []string {
	all, last := []string{""}, []string{""}
	for range most {
		var next []string
		for _, s := range last {
			for k := range len(from) {
				next = append(next, s+from[k:k+1])
			}
		}
		all, last = append(all, next...), next
	}
	return all
}

func TestEveryRow(t *testing.T) {
	for _, s := range every("ab+!s", 6) {
		l := rowOf(s)
		for _, given := range []struct {
			names []string
			by    *strings.Replacer
		}{
			{nil, strings.NewReplacer()},
			{names("a"), strings.NewReplacer("a", "+a!")},
			{names("b"), strings.NewReplacer("b", "+b!")},
			{names("b", "", "a"), strings.NewReplacer("a", "+a!", "b", "+b!")},
		} {
			if got, want := refuse.Rewrite(l, given.names...), rowOf(given.by.Replace(s)); !slices.Equal(got, want) {
				t.Fatalf("P8.1: Rewrite(%q, %q) = %v, want %v", s, given.names, got, want)
			}
		}
		var places []int
		for at := -1; at <= len(s)+1; at++ {
			want := s
			if at >= 0 && at < len(s) && (s[at] == 'a' || s[at] == 'b') {
				want = s[:at] + "+" + s[at:at+1] + "!" + s[at+1:]
				if s[at] == 'a' {
					places = append(places, at)
				}
			}
			if got := refuse.Mark(l, at); !slices.Equal(got, rowOf(want)) {
				t.Fatalf("P8.1: Mark(%q, %d) = %v, want %v", s, at, got, rowOf(want))
			}
		}
		if got := refuse.Places(l, "a"); !slices.Equal(got, places) {
			t.Fatalf("P8.1: Places(%q, a) = %v, want %v", s, got, places)
		}
	}
}

func TestStripOfEveryRow(t *testing.T) {
	once := strings.NewReplacer("+a!", "a", "+b!", "b")
	for _, s := range slices.Concat(every("a+!", 9), every("ab+!AT", 6)) {
		if got, want := refuse.Strip(rowOf(s)), rowOf(once.Replace(s)); !slices.Equal(got, want) {
			t.Fatalf("P8.2: Strip(%q) = %v, want %v", s, got, want)
		}
	}
}
