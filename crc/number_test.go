package crc_test

import (
	"bytes"
	"encoding/binary"
	"math"
	"testing"

	"redress/crc"
)

// put holds the bytes of n, so many, against want.
func put(t *testing.T, n uint64, count int, want []byte) {
	t.Helper()
	if got := crc.Put(n, count); !bytes.Equal(got, want) {
		t.Errorf("P16.2: Put(%#x, %d) = % x, want % x", n, count, got, want)
	}
}

// get holds the number of these bytes against want.
func get(t *testing.T, b []byte, want uint64) {
	t.Helper()
	if got := crc.Get(b); got != want {
		t.Errorf("P16.2: Get(% x) = %#x, want %#x", b[:min(len(b), 20)], got, want)
	}
}

func TestPutByHand(t *testing.T) {
	for _, c := range []struct {
		n     uint64
		count int
		want  []byte
	}{
		{258, 3, []byte{2, 1, 0}}, {258, 2, []byte{2, 1}}, {258, 1, []byte{2}}, {258, 8, []byte{2, 1, 0, 0, 0, 0, 0, 0}},
		{0, 1, []byte{0}}, {0, 4, []byte{0, 0, 0, 0}}, {255, 1, []byte{255}}, {256, 1, []byte{0}},
		{0x0807060504030201, 8, []byte{1, 2, 3, 4, 5, 6, 7, 8}}, {0x0807060504030201, 7, []byte{1, 2, 3, 4, 5, 6, 7}}, {0x0807060504030201, 5, []byte{1, 2, 3, 4, 5}}, {0x0807060504030201, 4, []byte{1, 2, 3, 4}},
		{math.MaxUint64, 8, []byte{255, 255, 255, 255, 255, 255, 255, 255}}, {1 << 63, 8, []byte{0, 0, 0, 0, 0, 0, 0, 128}}, {1 << 63, 7, make([]byte, 7)},
	} {
		put(t, c.n, c.count, c.want)
	}
}

// Below 1 there are none, above 8 there are 8.
func TestPutOfWrongCounts(t *testing.T) {
	for _, n := range []uint64{0, 1, 258, 0x0807060504030201, math.MaxUint64} {
		for _, count := range []int{0, -1, -2, -7, -8, -9, -256, -1 << 32, math.MinInt32, math.MinInt + 1, math.MinInt} {
			put(t, n, count, nil)
		}
		whole := crc.Put(n, 8)
		for _, count := range []int{9, 10, 16, 17, 64, 256, 257, 1 << 16, 1 << 32, 1<<32 + 1, math.MaxInt32, math.MaxInt - 1, math.MaxInt} {
			put(t, n, count, whole)
		}
	}
}

func TestGetByHand(t *testing.T) {
	for _, c := range []struct {
		b    []byte
		want uint64
	}{
		{nil, 0}, {[]byte{}, 0}, {[]byte{0}, 0}, {[]byte{7}, 7}, {[]byte{255}, 255}, {[]byte{2, 1}, 258}, {[]byte{2, 1, 0}, 258}, {[]byte{0, 0, 1}, 1 << 16},
		{[]byte{1, 2, 3, 4, 5, 6, 7, 8}, 0x0807060504030201}, {[]byte{1, 2, 3, 4, 5, 6, 7}, 0x07060504030201}, {[]byte{0, 0, 0, 0, 0, 0, 0, 128}, 1 << 63},
		{[]byte{255, 255, 255, 255, 255, 255, 255, 255}, math.MaxUint64}, {[]byte{0, 0, 0, 0, 1}, 1 << 32},
		// Behind the first eight nothing counts.
		{[]byte{1, 2, 3, 4, 5, 6, 7, 8, 9}, 0x0807060504030201}, {[]byte{0, 0, 0, 0, 0, 0, 0, 0, 1}, 0}, {bytes.Repeat([]byte{255}, 1<<16), math.MaxUint64},
	} {
		get(t, c.b, c.want)
	}
}

// numbers is those about each power of 2, and some with other bytes at each place.
func numbers() []uint64 {
	l := []uint64{0, 0x0102030405060708, 0xfedcba9876543210, 0x8000000000000001}
	for bit := range 64 {
		l = append(l, 1<<bit, 1<<bit-1, 1<<bit+1, ^(uint64(1) << bit))
	}
	return l
}

// What is put is got again, as far as its bytes go.
func TestGetOfPut(t *testing.T) {
	for _, n := range numbers() {
		whole := binary.LittleEndian.AppendUint64(nil, n)
		for count := range 9 {
			put(t, n, count, whole[:count])
			want := uint64(0)
			for k := count; k > 0; k-- {
				want = want*256 + uint64(whole[k-1])
			}
			get(t, crc.Put(n, count), want)
			get(t, append(crc.Put(n, count), make([]byte, 9)...), want)
		}
		get(t, append(crc.Put(n, 8), 1, 2, 3), n)
	}
}
