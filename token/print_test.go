package token_test

import (
	"math"
	"slices"
	"strings"
	"testing"

	"redress/api"
	"redress/token"
)

// A token may stand anywhere, also where there is no such place.
var places = []int{0, 1, 7, api.MaxText, api.MaxText + 1, -1, math.MinInt, math.MaxInt}

var noKinds = []int{0, -1, -2, -10, token.Name + 1, token.Name + 2, 40, 255, 256, 257, math.MinInt32, math.MaxInt32, math.MinInt, math.MinInt + 1, math.MaxInt}

var goodNames = append(token.Words(), "a", "z", "ab", "pay", "refund", "abcdefgh", "zzzzzzzz", "ok", "skippp")

var badNames = []string{
	"A", "Z", "aB", "Ba", "abcdefghi", "abcdefghA", strings.Repeat("a", 1000), " ", "a ", " a", "a b", "a1", "1", "a_b", "a;b", ";", "(", "a\x00", "\x00",
	"\xff", "a\xff", "é", "aé", "ａ", "а", "\ufffd", "`", "{", "a`", "a{", "\n", "a\n",
}

// isPrinted holds a token against its text, wherever it stands.
func isPrinted(t *testing.T, kind int, name, want string) {
	t.Helper()
	for _, at := range places {
		x := token.Token{Kind: kind, At: at, Name: name}
		if got, is := token.Print(x); got != want || !is {
			t.Errorf("P5.2: Print(%v) = %q, %v, want %q, true", x, got, is, want)
		}
	}
}

// isNotPrinted holds what is no token against its having no text, wherever it stands.
func isNotPrinted(t *testing.T, kind int, name string) {
	t.Helper()
	for _, at := range places {
		x := token.Token{Kind: kind, At: at, Name: name}
		if got, is := token.Print(x); got != "" || is {
			t.Errorf("P5.2: Print(%v) = %q, %v, want nothing, false", x, got, is)
		}
	}
}

func TestPrintMarks(t *testing.T) {
	for b, kind := range alone {
		isPrinted(t, kind, "", string([]byte{b}))
		for _, s := range slices.Concat(goodNames, badNames, []string{string([]byte{b})}) {
			isNotPrinted(t, kind, s)
		}
	}
}

func TestPrintNames(t *testing.T) {
	for _, s := range goodNames {
		isPrinted(t, token.Name, s, s)
	}
	for _, s := range append(badNames, "") {
		isNotPrinted(t, token.Name, s)
	}
	for long := 1; long <= 40; long++ {
		s := strings.Repeat("q", long)
		if long <= api.MaxName {
			isPrinted(t, token.Name, s, s)
		} else {
			isNotPrinted(t, token.Name, s)
		}
	}
	// One byte that is no letter, at each place, spoils a name.
	for at := range "abcdefgh" {
		for k := range 256 {
			s := "abcdefgh"[:at] + string([]byte{byte(k)}) + "abcdefgh"[at+1:]
			if 'a' <= k && k <= 'z' {
				isPrinted(t, token.Name, s, s)
			} else {
				isNotPrinted(t, token.Name, s)
			}
		}
	}
}

func TestPrintOfNoKind(t *testing.T) {
	for _, kind := range noKinds {
		for _, s := range slices.Concat(goodNames, badNames, []string{""}) {
			isNotPrinted(t, kind, s)
		}
	}
}

func TestWords(t *testing.T) {
	want := []string{"skip", "throw", "yield", "skipp", "throww", "yieldd"}
	first := token.Words()
	if !slices.Equal(first, want) {
		t.Errorf("P5.2: Words() = %q, want %q", first, want)
	}
	second := token.Words()
	for k := range first[:cap(first)] {
		first[:cap(first)][k] = "spoilt"
	}
	if third := token.Words(); !slices.Equal(second, want) || !slices.Equal(third, want) {
		t.Errorf("R6: to write into the Words changed them to %q and %q", second, third)
	}
}

// everyToken is all tokens that are no Names, and some that are, all of them at 0.
func everyToken() []token.Token {
	var l []token.Token
	for kind := token.Open; kind < token.Name; kind++ {
		l = append(l, mark(kind, 0))
	}
	for _, s := range goodNames {
		l = append(l, name(s, 0))
	}
	return l
}

func TestWhatIsPrintedIsRead(t *testing.T) {
	for _, x := range everyToken() {
		for _, at := range places {
			x.At = at
			s, is := token.Print(x)
			want := x
			want.At = 0
			l, n, e := token.Lex(s)
			if !is || !slices.Equal(l, []token.Token{want}) || n != len(s) || e != api.OK {
				t.Errorf("P5.3: %v, printed %q, is read as %v, %d, %d", x, s, l, n, e)
			}
		}
	}
}

// laid is the texts of tokens, with a blank between, and these tokens at the places where they then stand.
func laid(t *testing.T, l ...token.Token) (string, []token.Token) {
	t.Helper()
	text := ""
	var want []token.Token
	for k, x := range l {
		s, is := token.Print(x)
		if !is {
			t.Errorf("P5.2: %v has no text", x)
		}
		if k > 0 {
			text += " "
		}
		x.At = len(text)
		want = append(want, x)
		text += s
	}
	return text, want
}

// isReadBack holds tokens, printed with a blank between, against what is read.
func isReadBack(t *testing.T, l ...token.Token) {
	t.Helper()
	s, want := laid(t, l...)
	got, n, e := token.Lex(s)
	if !slices.Equal(got, want) || n != len(s) || e != api.OK {
		t.Errorf("P5.3: %q is read as %v, %d, %d, want %v", s, got, n, e, want)
	}
}

func TestTokensThatArePrintedAreRead(t *testing.T) {
	isReadBack(t)
	all := everyToken()
	for _, x := range all {
		for _, y := range all {
			isReadBack(t, x, y)
			for _, z := range all {
				isReadBack(t, x, y, z)
			}
		}
	}
	isReadBack(t, all...)
	isReadBack(t, slices.Concat(all, all, all)...)
	// As many as a text may have.
	isReadBack(t, slices.Repeat([]token.Token{mark(token.Bar, 5)}, api.MaxText/2)...)
	isReadBack(t, slices.Repeat([]token.Token{name("abcdefgh", 3)}, api.MaxText/9)...)
}

func TestWhatIsReadIsPrinted(t *testing.T) {
	for _, s := range []string{"[a/b]", "(ab;cd)+skip|throww>yieldd", "///", "((((((", "abcdefgh;i"} {
		l, _, e := token.Lex(s)
		text := ""
		for _, x := range l {
			part, is := token.Print(x)
			if !is || x.At != len(text) {
				t.Errorf("P5.2: %v of %q has no text, or is not where it stands", x, s)
			}
			text += part
		}
		if e != api.OK || text != s {
			t.Errorf("P5.3: %q is read, and printed as %q, %d", s, text, e)
		}
	}
}
