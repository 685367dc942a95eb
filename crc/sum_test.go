package crc_test

import (
	"bytes"
	"hash/crc32"
	"math/rand/v2"
	"slices"
	"testing"

	"redress/crc"
)

// sums holds the sum of b, and that of each of its two parts behind the other, against want.
func sums(t *testing.T, b []byte, want uint32) {
	t.Helper()
	if got := crc.Sum(b); got != want {
		t.Errorf("P16.1: Sum(% x) = %#x, want %#x", b[:min(len(b), 40)], got, want)
	}
	for cut := range len(b) + 1 {
		if got := crc.More(crc.Sum(b[:cut]), b[cut:]); got != want {
			t.Errorf("P16.4: the sum of % x, cut at %d, = %#x, want %#x", b[:min(len(b), 40)], cut, got, want)
		}
	}
}

// more holds what sum comes to over b against want.
func more(t *testing.T, sum uint32, b []byte, want uint32) {
	t.Helper()
	if got := crc.More(sum, b); got != want {
		t.Errorf("P16.1: More(%#x, % x) = %#x, want %#x", sum, b[:min(len(b), 40)], got, want)
	}
}

// rising is the bytes from 0 on, so many.
func rising(count int) []byte {
	var l []byte
	for k := range count {
		l = append(l, byte(k))
	}
	return l
}

func TestSumsByHand(t *testing.T) {
	for s, want := range map[string]uint32{
		"":          0,
		"a":         0xe8b7be43,
		"abc":       0x352441c2,
		"123456789": 0xcbf43926,
		"The quick brown fox jumps over the lazy dog": 0x414fa339,
		"\x00":                                0xd202ef8d,
		"\xff":                                0xff000000,
		"\x00\x00\x00\x00":                    0x2144df1c,
		"\xff\xff\xff\xff":                    0xffffffff,
		string(make([]byte, 12)):              0x7bd5c66f,
		string(make([]byte, 32)):              0x190a55ad,
		string(bytes.Repeat([]byte{255}, 32)): 0xff6cab0b,
		string(rising(32)):                    0x91267e8a,
	} {
		sums(t, []byte(s), want)
	}
}

func TestMoreByHand(t *testing.T) {
	for _, sum := range []uint32{0, 1, 2, 0x80000000, 0xedb88320, 0xcbf43926, 0xfffffffe, 0xffffffff} {
		more(t, sum, nil, sum)
		more(t, sum, []byte{}, sum)
	}
	// With all bits turned nothing is left, so that a 0 leaves it so.
	more(t, 0xffffffff, make([]byte, 1), 0xffffffff)
	more(t, 0xffffffff, make([]byte, 100), 0xffffffff)
	// The highest bit of a byte is added at the last of the eight times, the lowest one at the first.
	more(t, 0xffffffff, []byte{0x80}, 0xffffffff^0xedb88320)
	more(t, 0xffffffff, []byte{0x40}, 0xffffffff^0xedb88320>>1)
	more(t, 0xffffffff, []byte{1}, 0xffffffff^0x77073096)
	// A bit of the sum and the same bit of the byte are none.
	more(t, 0xfffffffe, []byte{1}, 0xffffffff)
	more(t, 0x7fffffff, []byte{0}, 0xff7fffff)
	more(t, 0xcbf43926, []byte("0"), 0x261daee5)
	more(t, 1, []byte("a"), 0x9fb08ed5)
}

// told is what sum comes to over b, by the document's sentence: bit by bit, as texts of 0 and 1, the lowest bit first.
func told(sum uint32, b []byte) uint32 {
	bits := func(n uint32, count int) []bool {
		var l []bool
		for k := range count {
			l = append(l, n>>k%2 == 1)
		}
		return l
	}
	add := func(to, l []bool) {
		for k, bit := range l {
			to[k] = to[k] != bit
		}
	}
	at := bits(sum, 32)
	turn := func() {
		for k := range at {
			at[k] = !at[k]
		}
	}
	turn()
	for _, x := range b {
		add(at, bits(uint32(x), 8))
		for range 8 {
			lowest := at[0]
			at = append(at[1:], false)
			if lowest {
				add(at, bits(0xedb88320, 32))
			}
		}
	}
	turn()
	n := uint32(0)
	for k, bit := range at {
		if bit {
			n += 1 << k
		}
	}
	return n
}

// Each byte, and each row of two, from several sums on.
func TestEveryShortRow(t *testing.T) {
	for _, sum := range []uint32{0, 0xffffffff, 0xcbf43926, 0x80000001} {
		for x := range 256 {
			more(t, sum, []byte{byte(x)}, told(sum, []byte{byte(x)}))
			for y := range 256 {
				b := []byte{byte(x), byte(y)}
				more(t, sum, b, crc32.Update(sum, crc32.IEEETable, b))
			}
		}
	}
}

// Each bit of a sum, and all but that, with each byte behind it.
func TestEveryBit(t *testing.T) {
	for bit := range 32 {
		for _, sum := range []uint32{1 << bit, ^(uint32(1) << bit)} {
			for x := range 256 {
				more(t, sum, []byte{byte(x)}, told(sum, []byte{byte(x)}))
			}
			more(t, sum, []byte("redress"), told(sum, []byte("redress")))
		}
	}
}

// byChance is so many bytes, always the same of the same source.
func byChance(source *rand.Rand, count int) []byte {
	b := make([]byte, count)
	for k := range b {
		b[k] = byte(source.Uint32())
	}
	return b
}

func TestRowsByChance(t *testing.T) {
	source := rand.New(rand.NewPCG(16, 1))
	for count := range 300 {
		b := byChance(source, count)
		want := crc32.ChecksumIEEE(b)
		sums(t, b, want)
		if count < 60 && told(0, b) != want {
			t.Fatalf("P16.1: the sum of % x is told otherwise by the document's sentence", b)
		}
		sum := source.Uint32()
		more(t, sum, b, crc32.Update(sum, crc32.IEEETable, b))
	}
}

// A sum goes on over any number of parts, also empty ones.
func TestManyParts(t *testing.T) {
	source := rand.New(rand.NewPCG(16, 2))
	for range 300 {
		parts := make([][]byte, source.IntN(9))
		sum := crc.Sum(nil)
		for k := range parts {
			parts[k] = byChance(source, source.IntN(5)*source.IntN(30))
			sum = crc.More(sum, parts[k])
		}
		if want := crc.Sum(slices.Concat(parts...)); sum != want {
			t.Errorf("P16.4: over %d parts the sum comes to %#x, want %#x", len(parts), sum, want)
		}
	}
}

// Any one other bit, and any few that stand close together, make another sum: that is what a sum is for.
func TestOtherBitsMakeAnotherSum(t *testing.T) {
	b := byChance(rand.New(rand.NewPCG(16, 3)), 100)
	want := crc.Sum(b)
	for at := range len(b) - 3 {
		for bit := range 8 {
			for _, with := range [][4]byte{{}, {255}, {0, 1, 128}, {7, 7, 7, 1}} {
				other := bytes.Clone(b)
				for k, x := range with {
					other[at+k] ^= x
				}
				other[at] ^= 1 << bit
				if !bytes.Equal(other, b) && crc.Sum(other) == want {
					t.Errorf("P16.1: with other bits at %d the sum is still %#x", at, want)
				}
			}
		}
	}
}

// Far longer than any frame.
func TestLongRows(t *testing.T) {
	b := byChance(rand.New(rand.NewPCG(16, 4)), 1<<22+3)
	want := crc32.ChecksumIEEE(b)
	if got := crc.Sum(b); got != want {
		t.Errorf("P16.1: the sum of %d bytes = %#x, want %#x", len(b), got, want)
	}
	if got := crc.More(crc.Sum(b[:1<<21+1]), b[1<<21+1:]); got != want {
		t.Errorf("P16.4: the sum of %d bytes, in two parts, = %#x, want %#x", len(b), got, want)
	}
}
