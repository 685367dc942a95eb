package sign_test

import (
	"math"
	"slices"
	"testing"

	"redress/api"
	"redress/sign"
)

var signs = []int{api.Tick, api.Bang, api.Query}

// The far ones are there because a table must not be read with them.
var noSigns = []int{0, -1, -2, -3, api.Query + 1, api.Query + 2, 255, 256, 257, math.MinInt32, math.MaxInt32, math.MinInt, math.MinInt + 1, math.MaxInt}

func everything() []int {
	return slices.Concat(signs, noSigns)
}

func TestIs(t *testing.T) {
	for _, s := range signs {
		if !sign.Is(s) {
			t.Errorf("P1.1: Is(%d) = false", s)
		}
	}
	for _, s := range noSigns {
		if sign.Is(s) {
			t.Errorf("P1.1: Is(%d) = true", s)
		}
	}
}

func TestText(t *testing.T) {
	for _, c := range []struct {
		s    int
		want string
	}{{api.Tick, "ok"}, {api.Bang, "!"}, {api.Query, "?"}} {
		if got := sign.Text(c.s); got != c.want {
			t.Errorf("P1.1: Text(%d) = %q, want %q", c.s, got, c.want)
		}
	}
	for _, s := range noSigns {
		if got := sign.Text(s); got != "" {
			t.Errorf("P1.1: Text(%d) = %q, want none", s, got)
		}
	}
}

func TestOf(t *testing.T) {
	for _, c := range []struct {
		s    string
		want int
	}{{"ok", api.Tick}, {"!", api.Bang}, {"?", api.Query}} {
		if got, is := sign.Of(c.s); got != c.want || !is {
			t.Errorf("P1.1: Of(%q) = %d, %v, want %d, true", c.s, got, is, c.want)
		}
	}
	for _, s := range []string{"", " ", "o", "k", "OK", "Ok", "ok ", " ok", "okok", "ok\x00", "!!", "!?", "?!", "??", "! ", "\n?", "1", "0", "\x00", "\xff", "\u00a1", "\uff01", "\uff1f"} {
		if got, is := sign.Of(s); got != 0 || is {
			t.Errorf("P1.1: Of(%q) = %d, %v, want 0, false", s, got, is)
		}
	}
}

func TestOfIsBackOfText(t *testing.T) {
	for _, s := range signs {
		if got, is := sign.Of(sign.Text(s)); got != s || !is {
			t.Errorf("P1.1: Of(Text(%d)) = %d, %v", s, got, is)
		}
	}
	for _, s := range noSigns {
		if got, is := sign.Of(sign.Text(s)); got != 0 || is {
			t.Errorf("P1.1: Of(Text(%d)) = %d, %v, want 0, false", s, got, is)
		}
	}
}

func TestBothOfSigns(t *testing.T) {
	for _, c := range []struct{ a, b, want int }{
		{api.Tick, api.Tick, api.Tick},
		{api.Tick, api.Query, api.Query},
		{api.Tick, api.Bang, api.Bang},
		{api.Query, api.Query, api.Query},
		{api.Query, api.Bang, api.Bang},
		{api.Bang, api.Bang, api.Bang},
	} {
		if got := sign.Both(c.a, c.b); got != c.want {
			t.Errorf("P1.2: Both(%d, %d) = %d, want %d", c.a, c.b, got, c.want)
		}
		if got := sign.Both(c.b, c.a); got != c.want {
			t.Errorf("P1.2: Both(%d, %d) = %d, want %d", c.b, c.a, got, c.want)
		}
	}
}

func TestBothOfNoSigns(t *testing.T) {
	for _, none := range noSigns {
		for _, s := range everything() {
			if got := sign.Both(none, s); got != 0 {
				t.Errorf("P1.2: Both(%d, %d) = %d, want 0", none, s, got)
			}
			if got := sign.Both(s, none); got != 0 {
				t.Errorf("P1.2: Both(%d, %d) = %d, want 0", s, none, got)
			}
		}
	}
}

func TestAllOfFew(t *testing.T) {
	if got := sign.All(); got != api.Tick {
		t.Errorf("P1.2: All() = %d, want Tick", got)
	}
	if got := sign.All([]int{}...); got != api.Tick {
		t.Errorf("P1.2: All of an empty list = %d, want Tick", got)
	}
	for _, s := range signs {
		if got := sign.All(s); got != s {
			t.Errorf("P1.2: All(%d) = %d", s, got)
		}
	}
	for _, s := range noSigns {
		if got := sign.All(s); got != 0 {
			t.Errorf("P1.2: All(%d) = %d, want 0", s, got)
		}
	}
	for _, a := range everything() {
		for _, b := range everything() {
			if got, want := sign.All(a, b), sign.Both(a, b); got != want {
				t.Errorf("P1.2: All(%d, %d) = %d, want %d", a, b, got, want)
			}
		}
	}
}

func TestAllOfMany(t *testing.T) {
	for _, c := range []struct {
		l    []int
		want int
	}{
		{[]int{api.Tick, api.Tick, api.Tick, api.Tick}, api.Tick},
		{[]int{api.Tick, api.Query, api.Tick, api.Tick}, api.Query},
		{[]int{api.Tick, api.Query, api.Bang}, api.Bang},
		{[]int{api.Bang, api.Query, api.Tick}, api.Bang},
		{[]int{api.Query, api.Bang, api.Query}, api.Bang},
		{[]int{0, api.Bang, api.Bang}, 0},
		{[]int{api.Bang, -1, api.Bang}, 0},
		{[]int{api.Bang, api.Query, api.Query + 1}, 0},
		{[]int{-1, api.Tick, api.Bang}, 0},
		{[]int{0, 0, 0}, 0},
	} {
		if got := sign.All(c.l...); got != c.want {
			t.Errorf("P1.2: All(%v) = %d, want %d", c.l, got, c.want)
		}
	}
}

func TestAllAtEachPlace(t *testing.T) {
	for _, long := range []int{1, 2, 7, 64, 1000} {
		for _, at := range []int{0, long / 2, long - 1} {
			for _, s := range signs {
				l := slices.Repeat([]int{api.Tick}, long)
				l[at] = s
				if got := sign.All(l...); got != s {
					t.Errorf("P1.2: All of %d ticks, but %d at %d, = %d", long, s, at, got)
				}
			}
			l := slices.Repeat([]int{api.Bang}, long)
			l[at] = 0
			if got := sign.All(l...); got != 0 {
				t.Errorf("P1.2: All of %d bangs, but 0 at %d, = %d", long, at, got)
			}
		}
	}
}

func TestAllLeavesItsList(t *testing.T) {
	l := []int{api.Query, 9, api.Bang, api.Tick}
	kept := slices.Clone(l)
	first := sign.All(l...)
	if !slices.Equal(l, kept) {
		t.Errorf("R5: All changed its list to %v", l)
	}
	if again := sign.All(l...); again != first {
		t.Errorf("R7: All told %d, then %d", first, again)
	}
}

func TestBothHangsNotOnOrder(t *testing.T) {
	for _, a := range everything() {
		for _, b := range everything() {
			if x, y := sign.Both(a, b), sign.Both(b, a); x != y {
				t.Errorf("P1.3: Both(%d, %d) = %d, the other way round %d", a, b, x, y)
			}
		}
	}
}

func TestBothPutTogetherEitherWay(t *testing.T) {
	for _, a := range everything() {
		for _, b := range everything() {
			for _, c := range everything() {
				left := sign.Both(sign.Both(a, b), c)
				right := sign.Both(a, sign.Both(b, c))
				if left != right || sign.All(a, b, c) != left {
					t.Errorf("P1.3: %d, %d, %d: %d from the left, %d from the right, %d by All", a, b, c, left, right, sign.All(a, b, c))
				}
			}
		}
	}
}

func TestTickChangesNothing(t *testing.T) {
	for _, s := range signs {
		if x, y := sign.Both(api.Tick, s), sign.Both(s, api.Tick); x != s || y != s {
			t.Errorf("P1.3: %d beside Tick: %d and %d", s, x, y)
		}
	}
}

func TestTwiceTheSame(t *testing.T) {
	for _, s := range signs {
		if got := sign.Both(s, s); got != s {
			t.Errorf("P1.3: Both(%d, %d) = %d", s, s, got)
		}
	}
}

func TestBothOfSignsIsSign(t *testing.T) {
	for _, a := range everything() {
		for _, b := range everything() {
			if got := sign.Is(sign.Both(a, b)); got != (sign.Is(a) && sign.Is(b)) {
				t.Errorf("P1.2: Is(Both(%d, %d)) = %v", a, b, got)
			}
		}
	}
}
