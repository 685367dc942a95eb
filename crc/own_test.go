package crc_test

import (
	"bytes"
	"testing"

	"redress/crc"
)

// roomy is b, with other bytes behind its end that are no part of it.
func roomy(b []byte) []byte {
	return append(bytes.Clone(b), bytes.Repeat([]byte{0xaa}, 40)...)[:len(b)]
}

// askAll asks of b all that can be asked of it.
func askAll(b []byte) {
	crc.Sum(b)
	crc.More(7, b)
	crc.Get(b)
	crc.Frame(7, b)
	crc.Open(b)
}

func TestAskingLeavesTheBytes(t *testing.T) {
	for _, was := range [][]byte{nil, {}, []byte("a"), []byte("123456789"), whole(258, []byte("ab")), append(whole(0, nil), 1, 2), make([]byte, 40)} {
		b := roomy(was)
		full := b[:len(b)+40]
		askAll(b)
		if !bytes.Equal(b, was) || !bytes.Equal(full[len(b):], bytes.Repeat([]byte{0xaa}, 40)) {
			t.Errorf("R5: % x was changed", was)
		}
		// What lies behind the end isn't read.
		if crc.Sum(b) != crc.Sum(was) || crc.Get(b) != crc.Get(was) {
			t.Errorf("P16.1, P16.2: of % x something else is told with room behind it", was)
		}
		asBegins(t, b)
		framesAs(t, 7, b, whole(7, was))
	}
	// The rest of a frame that lies behind the end is not there.
	frame := whole(258, []byte("ab"))
	for cut := range frame {
		shut(t, frame[:cut])
	}
}

// scribble writes over all of l, and over what it has room for.
func scribble(l []byte) {
	l = l[:cap(l)]
	for k := range l {
		l[k] = 0xee
	}
}

func TestWhatIsToldIsTheCallers(t *testing.T) {
	data := []byte("redress")
	frame, _ := crc.Frame(3, data)
	scribble(frame)
	if string(data) != "redress" {
		t.Errorf("R6: to write into a frame changed its data: %q", data)
	}
	framesAs(t, 3, data, whole(3, []byte("redress")))

	frame, _ = crc.Frame(3, data)
	scribble(data)
	opens(t, frame, 3, []byte("redress"))

	_, told, _ := crc.Open(frame)
	scribble(told)
	opens(t, frame, 3, []byte("redress"))

	_, told, _ = crc.Open(frame)
	_, again, _ := crc.Open(frame)
	scribble(frame)
	scribble(again)
	if string(told) != "redress" {
		t.Errorf("R6: to write into what was opened, or into what else was told, changed what is told: %q", told)
	}

	number, same := crc.Put(258, 3), crc.Put(258, 3)
	scribble(number)
	if !bytes.Equal(same, []byte{2, 1, 0}) {
		t.Errorf("R6: to write into a number's bytes changed those of another: % x", same)
	}
	put(t, 258, 3, []byte{2, 1, 0})
}

// An empty list is as good as none.
func TestNoneAndEmpty(t *testing.T) {
	for _, b := range [][]byte{nil, {}, make([]byte, 0, 30), []byte("abc")[:0]} {
		sums(t, b, 0)
		more(t, 258, b, 258)
		get(t, b, 0)
		framesAs(t, 258, b, whole(258, nil))
		shut(t, b)
	}
}

func TestTheSameAgain(t *testing.T) {
	frame := whole(258, []byte("ab"))
	for range 3 {
		sums(t, []byte("123456789"), 0xcbf43926)
		framesAs(t, 258, []byte("ab"), frame)
		framesAs(t, 0, nil, whole(0, nil))
		shut(t, frame[1:])
		put(t, 258, 3, []byte{2, 1, 0})
		get(t, frame, 258)
	}
}
