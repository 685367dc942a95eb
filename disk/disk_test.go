package disk_test

import (
	"bytes"
	"testing"

	"redress/api"
	"redress/disk"
)

// laid is b, and zeros behind that up to so many blocks.
func laid(blocks int, b ...byte) []byte {
	return append(bytes.Clone(b), make([]byte, blocks*api.Size-len(b))...)
}

// made is a new disk of so many blocks.
func made(t *testing.T, blocks int) *disk.Disk {
	t.Helper()
	d, err := disk.New(blocks)
	if d == nil || err != api.OK {
		t.Fatalf("P17.1: New(%d) = %v, %d, want a disk", blocks, d, err)
	}
	return d
}

// loaded is a disk with these bytes.
func loaded(t *testing.T, b []byte) *disk.Disk {
	t.Helper()
	d, err := disk.Load(b)
	if d == nil || err != api.OK {
		t.Fatalf("P17.1: Load(%d bytes) = %v, %d, want a disk", len(b), d, err)
	}
	return d
}

// none holds that there is no block k in d.
func none(t *testing.T, d *disk.Disk, k int) {
	t.Helper()
	if got := d.Read(k); len(got) != 0 {
		t.Errorf("P17.1: Read(%d) = % x, though there is no such block", k, got)
	}
}

// shows holds all that d tells of its bytes against want.
func shows(t *testing.T, d *disk.Disk, want []byte) {
	t.Helper()
	blocks := len(want) / api.Size
	if got := d.Blocks(); got != blocks {
		t.Errorf("P17.1: Blocks() = %d, want %d", got, blocks)
	}
	if got := d.Bytes(); !bytes.Equal(got, want) {
		t.Errorf("P17.1: Bytes() = % x, want % x", got, want)
	}
	for k := range blocks {
		if got := d.Read(k); !bytes.Equal(got, want[k*api.Size:(k+1)*api.Size]) {
			t.Errorf("P17.1: Read(%d) = % x, want % x", k, got, want[k*api.Size:(k+1)*api.Size])
		}
	}
	none(t, d, -1)
	none(t, d, blocks)
}

// stands holds whether d is down, and how many writes told OK.
func stands(t *testing.T, d *disk.Disk, down bool, writes int) {
	t.Helper()
	if got := d.Down(); got != down {
		t.Errorf("P17.3: Down() = %v, want %v", got, down)
	}
	if got := d.Writes(); got != writes {
		t.Errorf("P17.2: Writes() = %d, want %d", got, writes)
	}
}

// writes holds what a write of b into block k tells.
func writes(t *testing.T, d *disk.Disk, k int, b []byte, want api.Errno) {
	t.Helper()
	if got := d.Write(k, b); got != want {
		t.Errorf("P17.2: Write(%d, % x) = %d, want %d", k, b[:min(len(b), 24)], got, want)
	}
}

func TestNewDisks(t *testing.T) {
	for _, blocks := range []int{1, 2, 3, 7, 100, 1023, 1024} {
		d := made(t, blocks)
		shows(t, d, make([]byte, blocks*16))
		stands(t, d, false, 0)
	}
}

func TestLoadedDisks(t *testing.T) {
	for _, want := range [][]byte{
		make([]byte, 16),
		[]byte("0123456789abcdef"),
		[]byte("0123456789abcdefghijklmnopqrstuv"),
		laid(3, bytes.Repeat([]byte{255}, 33)...),
		bytes.Repeat([]byte("block one, block"), 5),
		bytes.Repeat([]byte{0xab, 0xcd}, 8*1024),
	} {
		d := loaded(t, want)
		shows(t, d, want)
		stands(t, d, false, 0)
		// What a disk tells is enough to load it again.
		shows(t, loaded(t, d.Bytes()), want)
	}
}

func TestWrites(t *testing.T) {
	full := bytes.Repeat([]byte{9}, 16)
	d := loaded(t, bytes.Repeat(full, 3))
	at := func(one, two, three []byte) []byte { return bytes.Join([][]byte{one, two, three}, nil) }

	writes(t, d, 0, []byte{1, 2, 3}, api.OK)
	shows(t, d, at(laid(1, 1, 2, 3), full, full))
	stands(t, d, false, 1)

	writes(t, d, 2, []byte("0123456789abcdef"), api.OK)
	shows(t, d, at(laid(1, 1, 2, 3), full, []byte("0123456789abcdef")))
	stands(t, d, false, 2)

	// What was there is gone, also where there is nothing to write.
	writes(t, d, 1, nil, api.OK)
	shows(t, d, at(laid(1, 1, 2, 3), laid(1), []byte("0123456789abcdef")))
	stands(t, d, false, 3)

	writes(t, d, 2, []byte("x"), api.OK)
	writes(t, d, 2, []byte("x"), api.OK)
	shows(t, d, at(laid(1, 1, 2, 3), laid(1), laid(1, 'x')))
	stands(t, d, false, 5)

	for _, k := range []int{-1, -2, -16, 3, 4, 16, 48} {
		writes(t, d, k, []byte{1}, api.ErrArg)
		writes(t, d, k, nil, api.ErrArg)
	}
	writes(t, d, 0, make([]byte, 17), api.ErrArg)
	writes(t, d, 2, make([]byte, 48), api.ErrArg)
	shows(t, d, at(laid(1, 1, 2, 3), laid(1), laid(1, 'x')))
	stands(t, d, false, 5)
}

func TestCuts(t *testing.T) {
	d := made(t, 2)
	d.Cut(1)
	stands(t, d, false, 0)
	writes(t, d, 0, []byte{7}, api.OK)
	stands(t, d, true, 1)
	writes(t, d, 1, []byte{8}, api.ErrDiskDown)
	stands(t, d, true, 1)
	shows(t, d, laid(2, 7))

	// It stays down, however often it is asked, and till it is up.
	for range 5 {
		writes(t, d, 0, nil, api.ErrDiskDown)
	}
	d.Up()
	stands(t, d, false, 1)
	writes(t, d, 1, []byte{8}, api.OK)
	stands(t, d, false, 2)
	shows(t, d, append(laid(1, 7), laid(1, 8)...))

	// Up again, nothing is cut: neither what was cut nor what is left of it.
	for range 20 {
		writes(t, d, 0, []byte{7}, api.OK)
	}
	stands(t, d, false, 22)
}

func TestCutsAtOnce(t *testing.T) {
	for _, after := range []int{0, -1, -2, -1000} {
		d := made(t, 1)
		d.Cut(after)
		stands(t, d, true, 0)
		writes(t, d, 0, []byte{1}, api.ErrDiskDown)
		shows(t, d, laid(1))
		d.Up()
		stands(t, d, false, 0)
		writes(t, d, 0, []byte{1}, api.OK)
		stands(t, d, false, 1)
		shows(t, d, laid(1, 1))
	}
}

// writesUntilDown is how many writes tell OK until d is down, or so many.
func writesUntilDown(d *disk.Disk, most int) int {
	for count := range most {
		if d.Down() || d.Write(0, []byte{byte(count)}) != api.OK {
			return count
		}
	}
	return most
}

func TestCutsAnew(t *testing.T) {
	for _, c := range []struct {
		name string
		do   func(d *disk.Disk)
		want int
	}{
		{"nothing", func(d *disk.Disk) {}, 50},
		{"a cut", func(d *disk.Disk) { d.Cut(3) }, 3},
		{"a later one", func(d *disk.Disk) { d.Cut(3); d.Cut(9) }, 9},
		{"an earlier one", func(d *disk.Disk) { d.Cut(9); d.Cut(3) }, 3},
		{"one at once", func(d *disk.Disk) { d.Cut(9); d.Cut(0) }, 0},
		{"one, though it is down", func(d *disk.Disk) { d.Cut(0); d.Cut(4) }, 4},
		{"one, though it went down", func(d *disk.Disk) { d.Cut(1); d.Write(0, nil); d.Cut(4) }, 4},
		{"one behind a write", func(d *disk.Disk) { d.Cut(5); d.Write(0, nil); d.Cut(5) }, 5},
		{"two writes of it", func(d *disk.Disk) { d.Cut(5); d.Write(0, nil); d.Write(0, nil) }, 3},
		{"writes ahead of it", func(d *disk.Disk) { d.Write(0, nil); d.Write(0, nil); d.Cut(3) }, 3},
		{"writes that are wrong", func(d *disk.Disk) { d.Cut(3); d.Write(1, nil); d.Write(0, make([]byte, 17)) }, 3},
		{"a cut that is undone", func(d *disk.Disk) { d.Cut(3); d.Up() }, 50},
		{"one of which a part is over", func(d *disk.Disk) { d.Cut(3); d.Write(0, nil); d.Up() }, 50},
		{"up, though it is up", func(d *disk.Disk) { d.Up() }, 50},
		{"up ahead of it", func(d *disk.Disk) { d.Up(); d.Cut(3) }, 3},
		{"down, and up, and cut", func(d *disk.Disk) { d.Cut(-1); d.Up(); d.Cut(2) }, 2},
		{"reading", func(d *disk.Disk) {
			d.Cut(3)
			d.Read(0)
			d.Bytes()
			d.Blocks()
			d.Writes()
			d.Down()
		}, 3},
	} {
		d := made(t, 1)
		c.do(d)
		if got := writesUntilDown(d, 50); got != c.want {
			t.Errorf("P17.3: behind %s %d writes told OK, want %d", c.name, got, c.want)
		}
	}
}

// A disk that is down is looked at all the same.
func TestDownIsRead(t *testing.T) {
	want := []byte("0123456789abcdefghijklmnopqrstuv")
	d := loaded(t, want)
	d.Cut(0)
	shows(t, d, want)
	d.Cut(1)
	writes(t, d, 1, []byte("ab"), api.OK)
	stands(t, d, true, 1)
	shows(t, d, append([]byte("0123456789abcdef"), laid(1, 'a', 'b')...))
}

// What is wrong in itself is told ahead of what is wrong for the while.
func TestOrderOfErrors(t *testing.T) {
	d := made(t, 2)
	d.Cut(0)
	for _, k := range []int{-1, 2} {
		writes(t, d, k, nil, api.ErrArg)
		writes(t, d, k, make([]byte, 17), api.ErrArg)
	}
	writes(t, d, 1, make([]byte, 17), api.ErrArg)
	writes(t, d, 1, make([]byte, 16), api.ErrDiskDown)
	stands(t, d, true, 0)
	shows(t, d, laid(2))
}
