package settle_test

import (
	"slices"
	"strings"
	"testing"

	"redress/api"
	"redress/settle"
	"redress/sort"
)

// rules is the chapter's table, each line written out for each sign: capital letters stand for trees.
func rules() [][2]string {
	l := [][2]string{
		{"skip", "ok"}, {"throw", "!"},
		{"seq ok B", "B"}, {"seq ! B", "!"}, {"seq ? B", "?"},
		{"hand ! B", "B"}, {"hand ok B", "ok"}, {"hand ? B", "?"},
		{"block end-ok C", "ok"}, {"block end-! C", "C"},
		{"going ok B", "end-ok B"}, {"going ! B", "end-! skip"}, {"going ? B", "end-? skip"},
		{"seq end-ok C B", "stack B C"}, {"seq end-! C B", "end-! C"}, {"seq end-? C B", "end-? C"},
		{"stack end-ok C D", "end-ok seq C D"}, {"stack end-! C D", "end-! seq C D"}, {"stack end-? C D", "end-? seq C D"},
	}
	for _, both := range []string{"ok ok ok", "ok ! !", "ok ? ?", "! ok !", "! ! !", "! ? !", "? ok ?", "? ! !", "? ? ?"} {
		s := strings.Fields(both)
		l = append(l, [2]string{"par " + s[0] + " " + s[1], s[2]}, [2]string{"par end-" + s[0] + " C end-" + s[1] + " D", "end-" + s[2] + " par C D"})
	}
	return l
}

// resting is, for each word, which of the trees behind it have not begun.
var resting = map[string]string{
	"seq": "1", "hand": "1", "going": "1", "stack": "1", "alt": "01", "pair": "01", "end-ok": "0", "end-!": "0", "end-?": "0",
}

// size is how many words the tree has with which l begins.
func size(l []string) int {
	open, k := 1, 0
	for open > 0 {
		open += arities[l[k]] - 1
		k++
	}
	return k
}

// goOn is the places of the tree l, from k on, that go on.
func goOn(l []string, k int) []int {
	places := []int{k}
	at := k + 1
	for kid := range arities[l[k]] {
		if !strings.Contains(resting[l[k]], string(rune('0'+kid))) {
			places = append(places, goOn(l, at)...)
		}
		at += size(l[at:])
	}
	return places
}

// fits is the trees for which the letters of a rule's left side stand, if it fits the tree with which l begins.
func fits(left string, l []string) (map[string][]string, bool) {
	stand := map[string][]string{}
	for _, word := range strings.Fields(left) {
		long := 1
		if word >= "A" && word <= "Z" {
			long = size(l)
			stand[word] = l[:long]
		} else if l[0] != word {
			return nil, false
		}
		l = l[long:]
	}
	return stand, true
}

// rewritten is l, of which a rule took the tree at the place.
func rewritten(l []string, at int, rules [][2]string) ([]string, bool) {
	for _, rule := range rules {
		stand, fit := fits(rule[0], l[at:])
		if !fit {
			continue
		}
		var made []string
		for _, word := range strings.Fields(rule[1]) {
			if x, is := stand[word]; is {
				made = append(made, x...)
			} else {
				made = append(made, word)
			}
		}
		return slices.Concat(l[:at], made, l[at+size(l[at:]):]), true
	}
	return nil, false
}

// byRules is what comes of the words of a tree: a rule takes one place at a time, those inside ahead of those outside, till none fits any more.
func byRules(words string, rules [][2]string) string {
	l := strings.Fields(words)
taken:
	for {
		places := goOn(l, 0)
		slices.Reverse(places)
		for _, at := range places {
			if next, is := rewritten(l, at, rules); is {
				l = next
				continue taken
			}
		}
		return strings.Join(l, " ")
	}
}

// The words that have one tree behind them, and those that have two.
var (
	ones = []string{"block", "end-ok", "end-!", "end-?"}
	twos = []string{"seq", "alt", "par", "hand", "pair", "going", "stack"}
)

// grown is all trees of up to so many nodes that are, or go on, plain or paired, of these words and those that have two trees behind them: what is of no sort is left out, as no tree of a sort has it.
func grown(most int, leaves, ones []string) []string {
	bySize := [][]string{nil}
	for long := 1; long <= most; long++ {
		var l []string
		keep := func(words string) {
			if sort.Of(tree(words)) != sort.None {
				l = append(l, words)
			}
		}
		if long == 1 {
			l = slices.Clone(leaves)
		}
		for _, x := range bySize[long-1] {
			for _, word := range ones {
				keep(word + " " + x)
			}
		}
		for left := 1; left < long-1; left++ {
			for _, x := range bySize[left] {
				for _, y := range bySize[long-1-left] {
					for _, word := range twos {
						keep(word + " " + x + " " + y)
					}
				}
			}
		}
		bySize = append(bySize, l)
	}
	return slices.Concat(bySize...)
}

// everyTree is all trees of up to 5 nodes, and longer ones of few words.
func everyTree() []string {
	return slices.Concat(
		grown(5, []string{"a", "skip", "throw", "yield", "ok", "!", "?"}, ones),
		grown(7, []string{"a", "skip"}, []string{"block", "end-!"}),
		grown(7, []string{"throw", "?"}, []string{"block", "end-ok"}),
	)
}

// isByRules holds all calls against what comes of a tree by the rules.
func isByRules(t *testing.T, words string, rules [][2]string) {
	t.Helper()
	l, want := tree(words), byRules(words, rules)
	got := settle.Settle(l)
	if text(got) != want {
		t.Fatalf("P10.1: Settle(%s) = %s, want %s", words, text(got), want)
	}
	if is := settle.Settled(l); is != (words == want) {
		t.Fatalf("P10.2: Settled(%s) = %v", words, is)
	}
	var begun string
	if sort.Right(l) {
		begun = want
	}
	if got := settle.Begin(l); text(got) != begun {
		t.Fatalf("P10.2: Begin(%s) = %s, want %s", words, text(got), begun)
	}
	isEnded(t, l)
}

// isEnded holds Ended of any row against the document's sentence: an Over alone, whatever its sign.
func isEnded(t *testing.T, l []api.Node) {
	t.Helper()
	want, has := 0, len(l) == 1 && l[0].Kind == api.Over
	if has {
		want = l[0].Sign
	}
	if s, is := settle.Ended(l); s != want || is != has {
		t.Fatalf("P10.2: Ended(%v) = %d, %v, want %d, %v", l, s, is, want, has)
	}
}

func TestEveryTree(t *testing.T) {
	rules := rules()
	seen := map[int]int{}
	for _, words := range everyTree() {
		seen[sort.Of(tree(words))]++
		isByRules(t, words, rules)
	}
	for s := sort.Plain; s <= sort.PairedOn; s++ {
		if seen[s] < 500 {
			t.Errorf("only %d trees of sort %d were tried", seen[s], s)
		}
	}
}

// All rows of a few words: most of them are no trees, and of the trees most are of no sort.
func TestEveryRow(t *testing.T) {
	rules := rules()
	words := slices.Concat([]string{"a", "skip", "throw", "ok", "?", "none"}, ones[:3], twos)
	wrong := map[string]api.Node{"none": {Kind: api.Over, Sign: api.Query + 1}}
	last, trees := []string{""}, 0
	for range 5 {
		var next []string
		for _, l := range last {
			for _, word := range words {
				next = append(next, strings.TrimSpace(l+" "+word))
			}
		}
		for _, words := range next {
			l := tree(words)
			for k, word := range strings.Fields(words) {
				if n, is := wrong[word]; is {
					l[k] = n
				}
			}
			isEnded(t, l)
			if sort.On(l, false) || sort.On(l, true) {
				trees++
				isByRules(t, words, rules)
			} else if got := settle.Settle(l); len(got) > 0 || settle.Settled(l) || len(settle.Begin(l)) > 0 {
				t.Fatalf("P10.1, P10.2: Settle(%s) = %s; Settled: %v; Begin: %v", words, text(got), settle.Settled(l), settle.Begin(l))
			}
		}
		last = next
	}
	if trees < 500 {
		t.Errorf("only %d trees were tried", trees)
	}
}

// chance is a row of numbers that is always the same.
type chance uint32

func (by *chance) below(n int) int {
	*by = *by*1664525 + 1013904223
	return int(*by>>8) % n
}

// one is one of the words.
func (by *chance) one(words ...string) string {
	return words[by.below(len(words))]
}

// plain is a tree of about so many nodes that is plain, or goes on so, by chance.
func (by *chance) plain(on bool, long int) string {
	if long < 3 {
		if on {
			return by.one("a", "skip", "throw", "ok", "!", "?", "ok", "skip")
		}
		return by.one("a", "b", "skip", "throw", "yield")
	}
	first := 1 + by.below(long-2)
	second := long - 1 - first
	word := by.one("seq", "par", "hand", "alt", "block", "block")
	switch {
	case word == "block":
		return "block " + by.paired(on, long-1)
	case on && word == "par":
		return "par " + by.plain(true, first) + " " + by.plain(true, second)
	case on && word == "alt":
		word = "seq"
	}
	return word + " " + by.plain(on, first) + " " + by.plain(false, second)
}

// paired is the same of one that is paired.
func (by *chance) paired(on bool, long int) string {
	first := 1 + by.below(max(1, long-2))
	second := long - 1 - first
	if long < 7 {
		if on && by.below(3) == 0 {
			return by.one("end-ok ", "end-!", "end-?") + " " + by.plain(false, long-1)
		}
		if on {
			return "going " + by.plain(true, first) + " " + by.plain(false, second)
		}
		return "pair " + by.plain(false, first) + " " + by.plain(false, second)
	}
	word := by.one("seq", "par", "stack")
	switch {
	case word == "stack" && on:
		return "stack " + by.paired(true, first) + " " + by.plain(false, second)
	case word == "stack":
		word = "alt"
	}
	return word + " " + by.paired(on, first) + " " + by.paired(on && word == "par", second)
}

// byChance is so many trees of up to most nodes, by chance.
func byChance(count, most int) []string {
	by := chance(11)
	var l []string
	for k := range count {
		grow := by.plain
		if k%2 == 1 {
			grow = by.paired
		}
		l = append(l, strings.Join(strings.Fields(grow(k%8 < 6, 5+by.below(most-10))), " "))
	}
	return l
}

func TestManyLongerTrees(t *testing.T) {
	rules := rules()
	seen := map[int]int{}
	changed := 0
	for _, words := range slices.Concat(byChance(2000, 40), byChance(400, api.MaxRow)) {
		l := tree(words)
		if len(l) <= api.MaxRow && sort.Of(l) == sort.None {
			t.Fatalf("%s is of no sort", words)
		}
		if len(l) > api.MaxRow {
			continue
		}
		seen[sort.Of(l)]++
		if !settle.Settled(l) {
			changed++
		}
		isByRules(t, words, rules)
	}
	for s := sort.Plain; s <= sort.PairedOn; s++ {
		if seen[s] < 100 {
			t.Errorf("only %d longer trees of sort %d were tried", seen[s], s)
		}
	}
	if changed < 1000 {
		t.Errorf("of only %d longer trees came another one", changed)
	}
}
