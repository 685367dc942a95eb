package token_test

import (
	"slices"
	"strings"
	"testing"

	"redress/api"
	"redress/token"
)

// mark is a token of that kind, at a place.
func mark(kind, at int) token.Token {
	return token.Token{Kind: kind, At: at}
}

// name is a Name at a place.
func name(s string, at int) token.Token {
	return token.Token{Kind: token.Name, At: at, Name: s}
}

// isRead holds a text against the tokens that it has.
func isRead(t *testing.T, s string, want ...token.Token) {
	t.Helper()
	l, at, e := token.Lex(s)
	if !slices.Equal(l, want) || at != len(s) || e != api.OK {
		t.Errorf("P5.1: Lex(%q) = %v, %d, %d, want %v, %d, OK", s, l, at, e, want, len(s))
	}
}

// isRefused holds a text against the place and the error of its fault.
func isRefused(t *testing.T, s string, wantAt int, wantE api.Errno) {
	t.Helper()
	l, at, e := token.Lex(s)
	if len(l) != 0 || at != wantAt || e != wantE {
		t.Errorf("P5.1: Lex(%q) = %v, %d, %d, want none, %d, %d", s, l, at, e, wantAt, wantE)
	}
}

// alone is the tokens of one byte, by that byte.
var alone = map[byte]int{
	'(': token.Open, ')': token.Close, '[': token.From, ']': token.To, ';': token.Semi,
	'+': token.Plus, '|': token.Bar, '>': token.More, '/': token.Slash,
}

func TestKindsAreCounted(t *testing.T) {
	kinds := []int{token.Open, token.Close, token.From, token.To, token.Semi, token.Plus, token.Bar, token.More, token.Slash, token.Name}
	if !slices.Equal(kinds, []int{1, 2, 3, 4, 5, 6, 7, 8, 9, 10}) {
		t.Errorf("P5.1: the kinds are %v", kinds)
	}
}

func TestExample(t *testing.T) {
	isRead(t, "[a/b] ;c", mark(token.From, 0), name("a", 1), mark(token.Slash, 2), name("b", 3), mark(token.To, 4), mark(token.Semi, 6), name("c", 7))
}

func TestEachByte(t *testing.T) {
	for k := range 256 {
		s := string([]byte{byte(k)})
		switch kind, is := alone[byte(k)]; {
		case is:
			isRead(t, s, mark(kind, 0))
		case 'a' <= k && k <= 'z':
			isRead(t, s, name(s, 0))
		case k == 32:
			isRead(t, s)
		default:
			isRefused(t, s, 0, api.ErrTokenByte)
		}
	}
}

func TestBlanks(t *testing.T) {
	isRead(t, "")
	isRead(t, "   ")
	isRead(t, "a", name("a", 0))
	isRead(t, "  a  ", name("a", 2))
	isRead(t, "a b", name("a", 0), name("b", 2))
	isRead(t, "ab   cd ", name("ab", 0), name("cd", 5))
	isRead(t, "  ( [", mark(token.Open, 2), mark(token.From, 4))
	isRead(t, "/ a/", mark(token.Slash, 0), name("a", 2), mark(token.Slash, 3))
	for _, s := range []string{"\t", "\n", "\r", "\v", "\f", "\x00", "\u00a0", "\u0085", "\u2003", "\u3000", "\ufeff"} {
		isRefused(t, s, 0, api.ErrTokenByte)
		isRefused(t, "a "+s+" b", 2, api.ErrTokenByte)
	}
}

func TestMarksNeedNoBlank(t *testing.T) {
	isRead(t, "()[];+|>/", mark(token.Open, 0), mark(token.Close, 1), mark(token.From, 2), mark(token.To, 3), mark(token.Semi, 4), mark(token.Plus, 5), mark(token.Bar, 6), mark(token.More, 7), mark(token.Slash, 8))
	// Two that are the same are two, and are no greater token.
	isRead(t, ">>||((", mark(token.More, 0), mark(token.More, 1), mark(token.Bar, 2), mark(token.Bar, 3), mark(token.Open, 4), mark(token.Open, 5))
	isRead(t, "(ab)cd[", mark(token.Open, 0), name("ab", 1), mark(token.Close, 3), name("cd", 4), mark(token.From, 6))
}

func TestNames(t *testing.T) {
	for _, s := range append(token.Words(), "a", "z", "az", "zzzzzzzz", "abcdefgh", "stuvwxyz", "skippp", "throwwww", "ok") {
		isRead(t, s, name(s, 0))
		isRead(t, " "+s+";"+s, name(s, 1), mark(token.Semi, 1+len(s)), name(s, 2+len(s)))
	}
}

func TestNamesAsLongAsTheyMayBe(t *testing.T) {
	for long := 1; long <= 40; long++ {
		s := strings.Repeat("z", long)
		if long <= api.MaxName {
			isRead(t, s+" "+s+";", name(s, 0), name(s, long+1), mark(token.Semi, 2*long+1))
			isRefused(t, s+"A", long, api.ErrTokenByte)
			isRefused(t, s+"é", long, api.ErrTokenByte)
			continue
		}
		for _, behind := range []string{"", " ", ";", "A", " A", "\xff", " " + s} {
			isRefused(t, s+behind, 0, api.ErrTokenName)
			isRefused(t, "ab ("+s+behind, 4, api.ErrTokenName)
		}
	}
	isRefused(t, strings.Repeat("a", api.MaxText), 0, api.ErrTokenName)
	isRead(t, "abcdefgh ijklmnop", name("abcdefgh", 0), name("ijklmnop", 9))
}

func TestBytesThatBeginNoToken(t *testing.T) {
	for s, at := range map[string]int{
		"A": 0, "aB": 1, "a1": 1, "a_b": 1, "a b C": 4, "é": 0, "aé": 1, "é1": 0, "ae\u0301": 2, "(\xff": 1, "a;\xc3": 2, "\x80a": 0,
		"(;1": 2, "a-b": 1, "a,b": 1, "a.b": 1, "{a}": 0, "a<b": 1, "a&b": 1, "a\\b": 1, "a?": 1, "a!": 1, "\"a\"": 0, "`": 0, "~": 0, "@": 0,
		"a A 1": 2, "\ufffd": 0, "a \ufffd": 2, "日本": 0, "a 日": 2, "\U0001f600": 0, "\xed\xa0\x80": 0, "\xf8": 0,
	} {
		isRefused(t, s, at, api.ErrTokenByte)
	}
	// Letters and marks elsewhere than among the first 128; and such of which the last byte alone is one.
	for _, s := range []string{"ａ", "ｚ", "а", "；", "｜", "（", "\u0128", "\u0161", "\u017a", "\u0220", "\u0120", "\U00010061", "\U00010028"} {
		isRefused(t, s, 0, api.ErrTokenByte)
		isRefused(t, "ab;"+s+"c", 3, api.ErrTokenByte)
	}
}

func TestTheFirstFaultIsTold(t *testing.T) {
	isRefused(t, "1 abcdefghi", 0, api.ErrTokenByte)
	isRefused(t, "abcdefghi 1", 0, api.ErrTokenName)
	isRefused(t, "abcdefghi1", 0, api.ErrTokenName)
	isRefused(t, "abcdefgh1ijklmnopq", 8, api.ErrTokenByte)
	isRefused(t, "a;abcdefghi;jklmnopqrs", 2, api.ErrTokenName)
	isRefused(t, "a;b 1;2", 4, api.ErrTokenByte)
}

func TestTextsAsLongAsTheyMayBe(t *testing.T) {
	for _, long := range []int{api.MaxText - 1, api.MaxText} {
		l, at, e := token.Lex(strings.Repeat(";", long))
		if len(l) != long || at != long || e != api.OK || l[long-1] != mark(token.Semi, long-1) {
			t.Errorf("P5.1: of %d marks: %d tokens, %d, %d", long, len(l), at, e)
		}
		isRead(t, strings.Repeat(" ", long))
		isRead(t, strings.Repeat(" ", long-2)+"ab", name("ab", long-2))
		isRefused(t, strings.Repeat(" ", long-1)+"A", long-1, api.ErrTokenByte)
		isRefused(t, strings.Repeat(" ", long-9)+"abcdefghi", long-9, api.ErrTokenName)
	}
	for _, long := range []int{api.MaxText + 1, api.MaxText + 2, 2 * api.MaxText, 1 << 20} {
		// What is wrong in it ahead of that is not told.
		for _, s := range []string{" ", ";", "a", "A", "\xff", "\x00"} {
			isRefused(t, strings.Repeat(s, long), api.MaxText, api.ErrTokenLong)
		}
		isRefused(t, strings.Repeat(" ", long-1)+"a", api.MaxText, api.ErrTokenLong)
	}
	// Bytes are counted, and not what they stand for.
	isRefused(t, strings.Repeat("é", api.MaxText/2), 0, api.ErrTokenByte)
	isRefused(t, strings.Repeat("é", api.MaxText/2+1), api.MaxText, api.ErrTokenLong)
	isRefused(t, strings.Repeat(" ", api.MaxText-1)+"é", api.MaxText, api.ErrTokenLong)
	isRefused(t, strings.Repeat(" ", api.MaxText-2)+"é", api.MaxText-2, api.ErrTokenByte)
}

// byBytes reads a text that is not too long in another way: byte by byte, each name grown by a letter at a time.
func byBytes(s string) (l []token.Token, at int, e api.Errno) {
	for at < len(s) {
		from := at
		for at < len(s) && strings.IndexByte("abcdefghijklmnopqrstuvwxyz", s[at]) >= 0 {
			at++
		}
		kind, is := alone[s[from]]
		switch {
		case at-from > api.MaxName:
			return nil, from, api.ErrTokenName
		case at > from:
			l = append(l, name(s[from:at], from))
			continue
		case is:
			l = append(l, mark(kind, from))
		case s[from] != ' ':
			return nil, from, api.ErrTokenByte
		}
		at++
	}
	return l, at, api.OK
}

func TestEveryShortText(t *testing.T) {
	pieces := []string{"a", "z", " ", "(", "/", "B", "\xff", "é", "mnopqrs", "skip"}
	texts := []string{""}
	for long := 0; long < 5; long++ {
		var longer []string
		for _, s := range texts {
			want, wantAt, wantE := byBytes(s)
			got, at, e := token.Lex(s)
			if !slices.Equal(got, want) || at != wantAt || e != wantE {
				t.Errorf("P5.1: Lex(%q) = %v, %d, %d, want %v, %d, %d", s, got, at, e, want, wantAt, wantE)
			}
			for _, piece := range pieces {
				longer = append(longer, s+piece)
			}
		}
		texts = longer
	}
}

func TestEachByteAtEachPlace(t *testing.T) {
	was := "[ab/cdefghij ; (k+l)>mn]| opqr"
	isOK := 0
	for at := range was {
		for k := range 256 {
			for _, s := range []string{was[:at] + string([]byte{byte(k)}) + was[at:], was[:at] + string([]byte{byte(k)}) + was[at+1:]} {
				want, wantAt, wantE := byBytes(s)
				if wantE == api.OK {
					isOK++
					isRead(t, s, want...)
				} else {
					isRefused(t, s, wantAt, wantE)
				}
			}
		}
	}
	if isOK < 1000 {
		t.Errorf("only %d texts were read", isOK)
	}
}

func TestWhatIsReadIsTheCallersOwn(t *testing.T) {
	s := "(ab;c)"
	want, _, _ := token.Lex(s)
	got, _, _ := token.Lex(s)
	for k := range got[:cap(got)] {
		got[:cap(got)][k] = token.Token{Kind: -1, At: -1, Name: "spoilt"}
	}
	again, at, e := token.Lex(s)
	if !slices.Equal(again, want) || at != len(s) || e != api.OK {
		t.Errorf("R6: Lex(%q) = %v, %d, %d, then %v", s, again, at, e, want)
	}
	if !slices.Equal(want, []token.Token{mark(token.Open, 0), name("ab", 1), mark(token.Semi, 3), name("c", 4), mark(token.Close, 5)}) {
		t.Errorf("R6: to write into what was read changed what was read ahead of it to %v", want)
	}
}
