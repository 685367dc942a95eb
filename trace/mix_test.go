package trace_test

import (
	"slices"
	"strings"
	"testing"

	"redress/trace"
)

// mixedByHand tries all choices, one bit an action, and leaves out what comes again.
func mixedByHand(a, b []string) [][]string {
	var rows [][]string
	for choice := range 1 << (len(a) + len(b)) {
		var row []string
		i, j := 0, 0
		for k := range len(a) + len(b) {
			if choice>>k&1 == 0 && i < len(a) {
				row, i = append(row, a[i]), i+1
			} else if choice>>k&1 == 1 && j < len(b) {
				row, j = append(row, b[j]), j+1
			}
		}
		if i == len(a) && j == len(b) {
			rows = append(rows, row)
		}
	}
	slices.SortFunc(rows, slices.Compare)
	return slices.CompactFunc(rows, slices.Equal)
}

// words is all rows of the letters a to c that are not longer than long.
func words(long int) []string {
	all, last := []string{""}, []string{""}
	for range long {
		var next []string
		for _, w := range last {
			next = append(next, w+"a", w+"b", w+"c")
		}
		all, last = append(all, next...), next
	}
	return all
}

// choices is (m + n)! / (m! n!).
func choices(m, n int) int {
	all := 1
	for k := range n {
		all = all * (m + k + 1) / (k + 1)
	}
	return all
}

func joined(rows [][]string) string {
	var texts []string
	for _, row := range rows {
		texts = append(texts, strings.Join(row, ""))
	}
	return strings.Join(texts, " ")
}

func TestMix(t *testing.T) {
	for _, c := range []struct{ a, b, want string }{
		{"a", "", "a"}, {"", "ab", "ab"},
		{"a", "b", "ab ba"}, {"b", "a", "ab ba"}, {"a", "a", "aa"},
		{"a", "bc", "abc bac bca"}, {"ab", "ab", "aabb abab"}, {"ab", "ba", "abab abba baab baba"},
		{"aab", "a", "aaab aaba"}, {"ba", "ca", "baca bcaa caba cbaa"},
	} {
		if got := joined(trace.Mix(letters(c.a), letters(c.b))); got != c.want {
			t.Errorf("P2.2: Mix(%s, %s) = %s, want %s", c.a, c.b, got, c.want)
		}
	}
}

func TestMixOfNone(t *testing.T) {
	for _, a := range [][]string{nil, {}} {
		for _, b := range [][]string{nil, {}} {
			if got := trace.Mix(a, b); len(got) != 1 || len(got[0]) != 0 {
				t.Errorf("P2.2: Mix of none and none = %q, want one row of none", got)
			}
		}
	}
}

func TestMixOfWholeNames(t *testing.T) {
	got := trace.Mix([]string{"ab", "a"}, []string{"a", "", "\xff"})
	want := mixedByHand([]string{"ab", "a"}, []string{"a", "", "\xff"})
	if !slices.EqualFunc(got, want, slices.Equal) {
		t.Errorf("P2.2: Mix = %q, want %q", got, want)
	}
	// Both rows spell aaa, but they are two rows.
	got = trace.Mix([]string{"a"}, []string{"aa"})
	if want := [][]string{{"a", "aa"}, {"aa", "a"}}; !slices.EqualFunc(got, want, slices.Equal) {
		t.Errorf("P2.2: Mix = %q, want %q", got, want)
	}
}

func TestMixOfAllWords(t *testing.T) {
	for _, a := range words(3) {
		for _, b := range words(3) {
			got := trace.Mix(letters(a), letters(b))
			if want := mixedByHand(letters(a), letters(b)); !slices.EqualFunc(got, want, slices.Equal) {
				t.Fatalf("P2.2: Mix(%s, %s) = %s, want %s", a, b, joined(got), joined(want))
			}
			if back := trace.Mix(letters(b), letters(a)); !slices.EqualFunc(got, back, slices.Equal) {
				t.Fatalf("P2.3: Mix(%s, %s) hangs on order", a, b)
			}
			if most := choices(len(a), len(b)); len(got) > most {
				t.Fatalf("P2.3: Mix(%s, %s) has %d rows, more than %d", a, b, len(got), most)
			}
		}
	}
}

func TestMixIsRising(t *testing.T) {
	for _, c := range [][2]string{{"cba", "abc"}, {"aabb", "abab"}, {"zyx", "wvut"}, {"abcabc", "cbacba"}} {
		rows := trace.Mix(letters(c[0]), letters(c[1]))
		for k := range len(rows) - 1 {
			if trace.Compare(trace.Trace{A: rows[k]}, trace.Trace{A: rows[k+1]}) >= 0 {
				t.Errorf("P2.2: Mix(%s, %s): row %d is not ahead of row %d", c[0], c[1], k, k+1)
			}
		}
	}
}

func TestMixOfOtherActions(t *testing.T) {
	for _, c := range []struct{ m, n, want int }{{1, 1, 2}, {2, 2, 6}, {3, 3, 20}, {1, 9, 10}, {5, 4, 126}, {8, 8, 12870}} {
		got := trace.Mix(letters("abcdefgh"[:c.m]), letters("stuvwxyz1"[:c.n]))
		if len(got) != c.want || choices(c.m, c.n) != c.want {
			t.Errorf("P2.3: Mix of %d and %d other actions has %d rows, want %d", c.m, c.n, len(got), c.want)
		}
	}
}

// Of the same action there are more choices than could be tried, and one row.
func TestMixOfSameActions(t *testing.T) {
	for _, c := range [][2]int{{40, 40}, {0, 300}, {1, 500}, {200, 200}} {
		a, b := slices.Repeat([]string{"a"}, c[0]), slices.Repeat([]string{"a"}, c[1])
		got := trace.Mix(a, b)
		if len(got) != 1 || !slices.Equal(got[0], slices.Concat(a, b)) {
			t.Errorf("P2.2: Mix of %d and %d times a has %d rows", c[0], c[1], len(got))
		}
	}
}

func TestMixOfLongRow(t *testing.T) {
	long := slices.Repeat([]string{"a", "b"}, 1<<17)
	if got := trace.Mix(long, nil); len(got) != 1 || !slices.Equal(got[0], long) {
		t.Error("P2.2: Mix of a long row and none is not that row")
	}
	if got := trace.Mix(nil, long); len(got) != 1 || !slices.Equal(got[0], long) {
		t.Error("P2.2: Mix of none and a long row is not that row")
	}
}
