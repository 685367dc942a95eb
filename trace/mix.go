package trace

import "slices"

// rest is what of two rows is still to be mixed.
type rest struct{ a, b []string }

// Mix is all rows that have the actions of a and those of b, each in its order; each row once, rising.
//
// Where both rows have the same action next, it goes on with all rests at once that the choice may leave: so no row is made twice, however many choices lead to it.
func Mix(a, b []string) [][]string {
	long := len(a) + len(b)
	var rows [][]string
	var mix func(done []string, left []rest)
	mix = func(done []string, left []rest) {
		for len(done) < long {
			next := firsts(left)
			last := len(next) - 1
			for _, action := range next[:last] {
				mix(append(done, action), behind(left, action))
			}
			// The last one needs no call: long rows with little to choose stay shallow.
			done, left = append(done, next[last]), behind(left, next[last])
		}
		rows = append(rows, slices.Clone(done))
	}
	mix(make([]string, 0, long), []rest{{a, b}})
	return rows
}

// firsts is the actions with which one of the rests may go on, each once, rising.
func firsts(left []rest) []string {
	var next []string
	for _, r := range left {
		next = append(next, r.a[:min(1, len(r.a))]...)
		next = append(next, r.b[:min(1, len(r.b))]...)
	}
	slices.Sort(next)
	return slices.Compact(next)
}

// behind is what is left of the rests, each once, when they go on with that action.
func behind(left []rest, action string) []rest {
	var then []rest
	for _, r := range left {
		if len(r.b) > 0 && r.b[0] == action {
			then = append(then, rest{r.a, r.b[1:]})
		}
		if len(r.a) > 0 && r.a[0] == action {
			then = append(then, rest{r.a[1:], r.b})
		}
	}
	// All have as many actions left, so those with as many of a are the same; and these stand side by side, as the list falls by a.
	return slices.CompactFunc(then, func(x, y rest) bool { return len(x.a) == len(y.a) })
}
