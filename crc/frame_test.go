package crc_test

import (
	"bytes"
	"encoding/binary"
	"hash/crc32"
	"math"
	"math/rand/v2"
	"testing"

	"redress/api"
	"redress/crc"
)

// framed is n, that length and data, with the right sum ahead of data: a frame, if it is data's own length, and short enough.
func framed(n uint64, length uint32, data []byte) []byte {
	b := binary.LittleEndian.AppendUint64(nil, n)
	b = binary.LittleEndian.AppendUint32(b, length)
	sum := crc32.Update(crc32.ChecksumIEEE(b), crc32.IEEETable, data)
	return append(binary.LittleEndian.AppendUint32(b, sum), data...)
}

// whole is the frame of n and data.
func whole(n uint64, data []byte) []byte {
	return framed(n, uint32(len(data)), data)
}

// opens holds that b is opened as n and data.
func opens(t *testing.T, b []byte, n uint64, data []byte) {
	t.Helper()
	if gotN, got, is := crc.Open(b); gotN != n || !bytes.Equal(got, data) || !is {
		t.Errorf("P16.3: Open(% x.. of %d) = %d, % x, %v, want %d, % x", b[:min(len(b), 24)], len(b), gotN, got, is, n, data)
	}
}

// shut holds that b isn't opened, and that nothing is told of it.
func shut(t *testing.T, b []byte) {
	t.Helper()
	if n, data, is := crc.Open(b); n != 0 || len(data) != 0 || is {
		t.Errorf("P16.3: Open(% x.. of %d) = %d, % x, %v, want nothing", b[:min(len(b), 24)], len(b), n, data, is)
	}
}

// framesAs holds the frame of n and data against want, and opens it.
func framesAs(t *testing.T, n uint64, data, want []byte) {
	t.Helper()
	if got, is := crc.Frame(n, data); !bytes.Equal(got, want) || !is {
		t.Errorf("P16.3: Frame(%d, % x.. of %d) = % x, %v, want % x", n, data[:min(len(data), 24)], len(data), got, is, want)
	}
	opens(t, want, n, data)
}

func TestFramesByHand(t *testing.T) {
	for _, c := range []struct {
		n          uint64
		data, want []byte
	}{
		{0, nil, []byte{0, 0, 0, 0, 0, 0, 0, 0, 0, 0, 0, 0, 0x6f, 0xc6, 0xd5, 0x7b}},
		{1, nil, []byte{1, 0, 0, 0, 0, 0, 0, 0, 0, 0, 0, 0, 0x00, 0x8a, 0x70, 0xe0}},
		{258, []byte("ab"), []byte{2, 1, 0, 0, 0, 0, 0, 0, 2, 0, 0, 0, 0x76, 0x9f, 0xd1, 0x7f, 'a', 'b'}},
		{math.MaxUint64, []byte{0}, []byte{255, 255, 255, 255, 255, 255, 255, 255, 1, 0, 0, 0, 0x1e, 0x3d, 0x69, 0xdb, 0}},
		{1 << 63, []byte("123456789"), []byte{0, 0, 0, 0, 0, 0, 0, 128, 9, 0, 0, 0, 0x09, 0x0d, 0x1f, 0x68, '1', '2', '3', '4', '5', '6', '7', '8', '9'}},
	} {
		framesAs(t, c.n, c.data, c.want)
	}
	for _, n := range numbers() {
		framesAs(t, n, []byte("redress"), whole(n, []byte("redress")))
		framesAs(t, n, nil, whole(n, nil))
	}
}

// Each length that data may have, and some that it may not.
func TestEveryLength(t *testing.T) {
	source := rand.New(rand.NewPCG(16, 5))
	long := byChance(source, api.MaxData+40)
	for length := range len(long) + 1 {
		n, data := source.Uint64(), long[:length]
		if length <= api.MaxData {
			framesAs(t, n, data, whole(n, data))
			opens(t, append(whole(n, data), long[:length%50]...), n, data)
			continue
		}
		if frame, is := crc.Frame(n, data); len(frame) != 0 || is {
			t.Errorf("P16.3: %d bytes of data make a frame of %d", length, len(frame))
		}
		// With the right sum, too, it is no frame.
		shut(t, whole(n, data))
		shut(t, append(whole(n, data), long...))
	}
	for _, length := range []int{1 << 12, 1 << 16, 1<<16 + 2, 1 << 22} {
		data := make([]byte, length)
		if frame, is := crc.Frame(1, data); len(frame) != 0 || is {
			t.Errorf("P16.3: %d bytes of data make a frame of %d", length, len(frame))
		}
		shut(t, whole(1, data))
	}
}

// frames is some frames, with all that is to be found in them.
func frames() []struct {
	n    uint64
	data []byte
} {
	return []struct {
		n    uint64
		data []byte
	}{
		{0, nil}, {1, nil}, {0, []byte{0}}, {258, []byte("ab")}, {math.MaxUint64, bytes.Repeat([]byte{255}, 16)}, {0, make([]byte, 40)}, {1 << 40, rising(100)}, {7, whole(8, []byte("c"))}, {9, whole(0, nil)},
	}
}

// What stands behind a frame is of no account.
func TestBehindAFrame(t *testing.T) {
	for _, c := range frames() {
		frame := whole(c.n, c.data)
		for x := range 256 {
			opens(t, append(bytes.Clone(frame), byte(x)), c.n, c.data)
		}
		for _, other := range frames() {
			opens(t, append(bytes.Clone(frame), whole(other.n, other.data)...), c.n, c.data)
		}
		for _, count := range []int{2, 15, 16, 17, api.MaxData, api.MaxData + 16, 1 << 20} {
			opens(t, append(bytes.Clone(frame), make([]byte, count)...), c.n, c.data)
			opens(t, append(bytes.Clone(frame), bytes.Repeat([]byte{255}, count)...), c.n, c.data)
		}
	}
}

// What is cut short is not opened, and neither is what begins elsewhere.
func TestPartsOfAFrame(t *testing.T) {
	long := rising(api.MaxData)
	for _, c := range append(frames(), struct {
		n    uint64
		data []byte
	}{3, long}) {
		frame := whole(c.n, c.data)
		for cut := range frame {
			shut(t, frame[:cut])
			// What is cut out of the middle of longer bytes ends there all the same.
			shut(t, append(bytes.Clone(frame), 1, 2, 3)[:cut])
		}
		for from := 1; from < min(len(frame), 16); from++ {
			shut(t, frame[from:])
		}
		shut(t, append([]byte{0}, frame...))
	}
	shut(t, nil)
	shut(t, []byte{})
	shut(t, []byte("redress"))
	// Of a frame in a frame each is opened where it begins.
	inner := whole(8, []byte("c"))
	opens(t, whole(7, inner), 7, inner)
	opens(t, whole(7, inner)[16:], 8, []byte("c"))
}

// Other bytes at any place, but behind the frame, make that it is none.
func TestOtherBytes(t *testing.T) {
	for _, c := range frames() {
		frame := whole(c.n, c.data)
		for at := range frame {
			for x := 1; x < 256; x++ {
				other := bytes.Clone(frame)
				other[at] ^= byte(x)
				shut(t, other)
				// With more behind it a greater length is there, but not the sum of that.
				shut(t, append(other, make([]byte, 300)...))
			}
		}
	}
}

// begins tells of b, by the document's sentence, with which frame it begins: each length that data could have is tried.
func begins(b []byte) (uint64, []byte, bool) {
	for length := range api.MaxData + 1 {
		if len(b) < 16+length {
			break
		}
		n, data := binary.LittleEndian.Uint64(b), b[16:16+length]
		if bytes.HasPrefix(b, whole(n, data)) {
			return n, data, true
		}
	}
	return 0, nil, false
}

// asBegins holds what is opened of b against the document's sentence.
func asBegins(t *testing.T, b []byte) bool {
	t.Helper()
	n, data, is := begins(b)
	if is {
		opens(t, b, n, data)
	} else {
		shut(t, b)
	}
	return is
}

// Frames of whatever length is said, with the right sum of so many bytes: only that of all and of no more than there are is a frame.
func TestWrongLengths(t *testing.T) {
	data := rising(30)
	for said := range 80 {
		for summed := range len(data) + 1 {
			b := framed(5, uint32(said), data[:summed])
			if is := asBegins(t, b); is != (said == summed) {
				t.Errorf("P16.3: a frame of %d bytes that says %d: %v", summed, said, is)
			}
			b = append(b, data[summed:]...)
			if is := asBegins(t, b); is != (said == summed) {
				t.Errorf("P16.3: a frame of %d bytes that says %d, with more behind it: %v", summed, said, is)
			}
		}
	}
	// Where so great a length is added to a place, it comes round again, or below nothing.
	for _, said := range []uint32{api.MaxData + 1, 1 << 15, 1<<16 - 1, 1 << 16, 1<<31 - 16, 1<<31 - 1, 1 << 31, 1<<31 + 1, 1<<32 - 17, 1<<32 - 16, 1<<32 - 15, 1<<32 - 1} {
		for summed := range 20 {
			shut(t, framed(5, said, data[:summed]))
			shut(t, append(framed(5, said, data[:summed]), make([]byte, 100)...))
		}
	}
}

// Rows of bytes by chance, near to frames and far from them.
func TestBytesByChance(t *testing.T) {
	source := rand.New(rand.NewPCG(16, 6))
	opened := 0
	for range 3000 {
		data := byChance(source, source.IntN(40))
		b := append(whole(source.Uint64()>>source.IntN(64), data), byChance(source, source.IntN(10))...)
		for range source.IntN(3) {
			b[source.IntN(len(b))] = byte(source.IntN(4))
		}
		if asBegins(t, b) {
			opened++
		}
		asBegins(t, b[:source.IntN(len(b)+1)])
		asBegins(t, byChance(source, source.IntN(60)))
		asBegins(t, make([]byte, source.IntN(60)))
	}
	if opened < 500 || opened > 2500 {
		t.Errorf("of 3000 rows %d were frames", opened)
	}
}
