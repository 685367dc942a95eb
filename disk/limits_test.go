package disk_test

import (
	"bytes"
	"math"
	"testing"

	"redress/api"
	"redress/disk"
)

// isDisk tells of how many blocks there is a disk.
func isDisk(blocks int) bool { return blocks >= 1 && blocks <= 1024 }

// told holds that there is a disk only where it is made.
func told(t *testing.T, call string, n int, d *disk.Disk, err api.Errno, is bool) {
	t.Helper()
	want := api.ErrArg
	if is {
		want = api.OK
	}
	if err != want || (d != nil) != is {
		t.Errorf("P17.1: %s of %d: %v, %d, want %d", call, n, d != nil, err, want)
	}
}

func TestHowManyBlocks(t *testing.T) {
	for blocks := -40; blocks <= 1100; blocks++ {
		d, err := disk.New(blocks)
		told(t, "New", blocks, d, err, isDisk(blocks))
		if d != nil && d.Blocks() != blocks {
			t.Errorf("P17.1: New(%d) has %d", blocks, d.Blocks())
		}
	}
	for _, blocks := range []int{math.MinInt, math.MinInt + 1, math.MinInt32, -1 << 16, -1024, 2048, 1 << 16, math.MaxInt32, 1 << 32, 1<<32 + 1, 1 << 60, 1<<60 + 1, math.MaxInt - 1, math.MaxInt} {
		d, err := disk.New(blocks)
		told(t, "New", blocks, d, err, false)
	}
}

func TestHowManyBytes(t *testing.T) {
	many := make([]byte, 1<<20)
	for k := range many {
		many[k] = byte(k>>8) ^ byte(k)*7
	}
	check := func(length int) {
		d, err := disk.Load(many[:length])
		told(t, "Load", length, d, err, length%16 == 0 && isDisk(length/16))
		if d != nil && (d.Blocks() != length/16 || !bytes.Equal(d.Bytes(), many[:length])) {
			t.Errorf("P17.1: Load of %d bytes has %d blocks", length, d.Blocks())
		}
	}
	for length := range 200 {
		check(length)
	}
	for length := 1024*16 - 40; length <= 1024*16+200; length++ {
		check(length)
	}
	for _, length := range []int{512 * 16, 700 * 16, 2048 * 16, 1 << 16, 1<<16 + 16, 1<<20 - 1, 1 << 20} {
		check(length)
	}
}

func TestHowLongAWrite(t *testing.T) {
	many := bytes.Repeat([]byte("lengthy"), 1<<16)
	for length := range 100 {
		d := loaded(t, bytes.Repeat([]byte{9}, 48))
		b := many[:length]
		want := bytes.Repeat([]byte{9}, 48)
		if length <= 16 {
			copy(want[16:], laid(1, b...))
			writes(t, d, 1, b, api.OK)
			stands(t, d, false, 1)
		} else {
			writes(t, d, 1, b, api.ErrArg)
			stands(t, d, false, 0)
		}
		shows(t, d, want)
	}
	d := made(t, 1)
	writes(t, d, 0, many, api.ErrArg)
	writes(t, d, 5, many, api.ErrArg)
	shows(t, d, laid(1))
}

func TestWhichBlock(t *testing.T) {
	for _, blocks := range []int{1, 2, 3, 1023, 1024} {
		d := made(t, blocks)
		for _, k := range []int{math.MinInt, math.MinInt + 1, math.MinInt32, -1 << 16, -1024, -16, -2, -1, blocks, blocks + 1, 2 * blocks, 16 * blocks, 1025, 1 << 16, 1 << 32, 1 << 60, 1<<60 + 1, math.MaxInt - 1, math.MaxInt} {
			none(t, d, k)
			writes(t, d, k, []byte{1}, api.ErrArg)
		}
		stands(t, d, false, 0)
		if !bytes.Equal(d.Bytes(), make([]byte, blocks*16)) {
			t.Errorf("P17.4: writes into no block of %d changed something", blocks)
		}
	}
	// Each block is written, and read, where it is.
	d := made(t, 1024)
	for k := range 1024 {
		writes(t, d, k, []byte{byte(k), byte(k >> 8), 1}, api.OK)
	}
	for k, all := 0, d.Bytes(); k < 1024; k++ {
		want := laid(1, byte(k), byte(k>>8), 1)
		if !bytes.Equal(d.Read(k), want) || !bytes.Equal(all[k*16:(k+1)*16], want) {
			t.Errorf("P17.2: block %d is % x", k, d.Read(k))
		}
	}
	stands(t, d, false, 1024)
}

func TestFarCuts(t *testing.T) {
	for _, after := range []int{100001, 1 << 31, 1<<32 + 1, math.MaxInt - 1, math.MaxInt} {
		d := made(t, 1)
		for range 3 {
			d.Write(0, nil)
		}
		d.Cut(after)
		if got := writesUntilDown(d, 100000); got != 100000 || d.Down() {
			t.Errorf("P17.3: cut after %d, %d writes told OK, and it is down: %v", after, got, d.Down())
		}
		stands(t, d, false, 100003)
	}
	for _, after := range []int{math.MinInt, math.MinInt + 1, -1 << 32, -1 << 31} {
		d := made(t, 1)
		d.Write(0, nil)
		d.Cut(after)
		stands(t, d, true, 1)
		writes(t, d, 0, nil, api.ErrDiskDown)
		stands(t, d, true, 1)
	}
	for after := range 300 {
		d := made(t, 1)
		d.Cut(after)
		if got := writesUntilDown(d, 400); got != after || !d.Down() || d.Writes() != after {
			t.Errorf("P17.3: cut after %d, %d writes told OK", after, got)
		}
	}
}
