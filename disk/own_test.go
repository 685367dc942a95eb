package disk_test

import (
	"bytes"
	"testing"

	"redress/api"
	"redress/disk"
)

// roomy is b, with other bytes behind its end that are no part of it.
func roomy(b []byte) []byte {
	return append(bytes.Clone(b), bytes.Repeat([]byte{0xaa}, 100)...)[:len(b)]
}

// scribble writes over all of l, and over what it has room for.
func scribble(l []byte) {
	l = l[:cap(l)]
	for k := range l {
		l[k] = 0xee
	}
}

// left holds that a call changed neither b nor what lies behind its end.
func left(t *testing.T, b, was []byte) {
	t.Helper()
	if !bytes.Equal(b, was) || !bytes.Equal(b[len(b):len(b)+100], bytes.Repeat([]byte{0xaa}, 100)) {
		t.Errorf("R5: % x was changed", was)
	}
}

func TestWhatIsGivenStays(t *testing.T) {
	for length := range 60 {
		was := bytes.Repeat([]byte{3}, length)
		b := roomy(was)
		d := made(t, 2)
		d.Write(1, b)
		left(t, b, was)
		// What lies behind the end isn't written.
		if length <= api.Size {
			shows(t, d, append(laid(1), laid(1, was...)...))
		}
		scribble(d.Bytes())
		d.Write(1, []byte{1, 2})
		left(t, b, was)

		loaded, err := disk.Load(b)
		left(t, b, was)
		if err == api.OK {
			shows(t, loaded, was)
			loaded.Write(0, []byte{1, 2})
			loaded.Write(loaded.Blocks()-1, nil)
			left(t, b, was)
		}
	}
}

func TestWhatIsGivenIsNotKept(t *testing.T) {
	b := bytes.Repeat([]byte{3}, 48)
	d := loaded(t, b)
	scribble(b)
	shows(t, d, bytes.Repeat([]byte{3}, 48))

	for _, length := range []int{1, 15, 16} {
		b = bytes.Repeat([]byte{5}, length)
		writes(t, d, 1, b, api.OK)
		scribble(b)
		want := bytes.Repeat([]byte{3}, 48)
		copy(want[16:], laid(1, bytes.Repeat([]byte{5}, length)...))
		shows(t, d, want)
	}
}

func TestWhatIsToldIsTheCallers(t *testing.T) {
	want := []byte("0123456789abcdefghijklmnopqrstuvABCDEFGHIJKLMNOP")
	d := loaded(t, want)
	one, again, all, same := d.Read(1), d.Read(1), d.Bytes(), d.Bytes()
	scribble(one)
	shows(t, d, want)
	scribble(all)
	shows(t, d, want)
	if !bytes.Equal(again, want[16:32]) || !bytes.Equal(same, want) {
		t.Errorf("R6: to write into what was read changed what else was: % x, % x", again, same)
	}
	// What was read is of its time.
	writes(t, d, 1, []byte{1}, api.OK)
	if !bytes.Equal(again, want[16:32]) || !bytes.Equal(same, want) {
		t.Errorf("R6: a write changed what was read ahead of it: % x, % x", again, same)
	}
	// What was read of a disk may be written into it, and loaded.
	writes(t, d, 0, d.Read(2), api.OK)
	copied := loaded(t, d.Bytes())
	now := append(append([]byte("ABCDEFGHIJKLMNOP"), laid(1, 1)...), "ABCDEFGHIJKLMNOP"...)
	writes(t, copied, 2, nil, api.OK)
	shows(t, d, now)
	writes(t, d, 0, nil, api.OK)
	shows(t, copied, append(now[:32], laid(1)...))
}

// Each disk is one of its own.
func TestDisksApart(t *testing.T) {
	b := bytes.Repeat([]byte{3}, 32)
	disks := []*disk.Disk{made(t, 2), made(t, 2), loaded(t, b), loaded(t, b)}
	writes(t, disks[0], 0, []byte{1}, api.OK)
	writes(t, disks[2], 1, []byte{2}, api.OK)
	disks[0].Cut(0)
	disks[2].Cut(0)
	shows(t, disks[0], laid(2, 1))
	shows(t, disks[1], laid(2))
	shows(t, disks[2], append(bytes.Repeat([]byte{3}, 16), laid(1, 2)...))
	shows(t, disks[3], b)
	for k, d := range disks {
		stands(t, d, k%2 == 0, 1-k%2)
	}
}

// An empty list is as good as none.
func TestNoneAndEmpty(t *testing.T) {
	for _, b := range [][]byte{nil, {}, make([]byte, 0, 32), []byte("0123456789abcdef")[:0]} {
		if d, err := disk.Load(b); d != nil || err != api.ErrArg {
			t.Errorf("P17.1: Load of nothing = %v, %d", d, err)
		}
		d := loaded(t, bytes.Repeat([]byte{3}, 32))
		writes(t, d, 0, b, api.OK)
		shows(t, d, append(laid(1), bytes.Repeat([]byte{3}, 16)...))
		stands(t, d, false, 1)
	}
}

// askAll asks of d all that can be told of it.
func askAll(d *disk.Disk) {
	d.Blocks()
	d.Writes()
	d.Down()
	d.Bytes()
	for k := -1; k <= d.Blocks(); k++ {
		d.Read(k)
	}
}

func TestTheSameAgain(t *testing.T) {
	want := []byte("0123456789abcdefghijklmnopqrstuv")
	for range 3 {
		d := loaded(t, want)
		d.Cut(2)
		for range 3 {
			askAll(d)
			shows(t, d, want)
			stands(t, d, false, 0)
		}
		writes(t, d, 1, []byte{1}, api.OK)
		askAll(d)
		writes(t, d, 1, []byte{2}, api.OK)
		for range 3 {
			askAll(d)
			writes(t, d, 1, []byte{3}, api.ErrDiskDown)
			shows(t, d, append([]byte("0123456789abcdef"), laid(1, 2)...))
			stands(t, d, true, 2)
		}
	}
}
