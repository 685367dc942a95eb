package disk_test

import (
	"bytes"
	"math/rand/v2"
	"testing"

	"redress/api"
	"redress/disk"
)

// differ is the blocks in which the bytes a and b differ.
func differ(a, b []byte) []int {
	var l []int
	for k := range len(a) / api.Size {
		if !bytes.Equal(a[k*api.Size:(k+1)*api.Size], b[k*api.Size:(k+1)*api.Size]) {
			l = append(l, k)
		}
	}
	return l
}

// state is all that d tells.
func state(d *disk.Disk) (b []byte, writes int, down bool) {
	return d.Bytes(), d.Writes(), d.Down()
}

// holdsOneWrite holds what a write changed against what it told: P17.4.
func holdsOneWrite(t *testing.T, d *disk.Disk, k int, b []byte) {
	t.Helper()
	wasBytes, was, wasDown := state(d)
	err := d.Write(k, b)
	nowBytes, now, down := state(d)
	changed := differ(wasBytes, nowBytes)
	switch {
	case err != api.OK && (len(changed) != 0 || now != was || down != wasDown):
		t.Errorf("P17.4: Write(%d, % x) told %d, and changed %v, %d to %d, %v to %v", k, b, err, changed, was, now, wasDown, down)
	case err == api.OK && (len(changed) > 1 || len(changed) == 1 && changed[0] != k || now != was+1 || wasDown):
		t.Errorf("P17.4: Write(%d, % x) told OK, and changed %v, %d to %d, down: %v", k, b, changed, was, now, wasDown)
	case err == api.OK && !bytes.Equal(d.Read(k), laid(1, b...)):
		t.Errorf("P17.2: Write(%d, % x) told OK, and the block is % x", k, b, d.Read(k))
	}
}

func TestAWriteChangesOneBlockOrNothing(t *testing.T) {
	for _, blocks := range []int{1, 2, 5} {
		for _, after := range []int{-1, 0, 1, 2, 9} {
			for k := -2; k < blocks+2; k++ {
				for length := range 20 {
					d := loaded(t, bytes.Repeat([]byte{3}, blocks*16))
					d.Cut(after)
					b := bytes.Repeat([]byte{byte(length)}, length)
					holdsOneWrite(t, d, k, b)
					holdsOneWrite(t, d, k, b)
					holdsOneWrite(t, d, 0, nil)
				}
			}
		}
	}
}

func TestWritesByChance(t *testing.T) {
	r := rand.New(rand.NewPCG(17, 4))
	for range 40 {
		blocks := 1 + r.IntN(1024)
		d := made(t, blocks)
		for range 40 {
			x := byChance(r, blocks)
			if x.what == "write" {
				holdsOneWrite(t, d, x.n, x.b)
			} else {
				x.do(d)
			}
		}
	}
}

// A write that told an error counts for nothing, not even for what is cut.
func TestWhatFailsIsNotCounted(t *testing.T) {
	for wrong := range 10 {
		d := made(t, 2)
		d.Cut(2)
		for range wrong {
			writes(t, d, 2, nil, api.ErrArg)
			writes(t, d, 0, make([]byte, 17), api.ErrArg)
		}
		stands(t, d, false, 0)
		writes(t, d, 0, []byte{1}, api.OK)
		for range wrong {
			writes(t, d, -1, nil, api.ErrArg)
		}
		stands(t, d, false, 1)
		writes(t, d, 1, []byte{2}, api.OK)
		for range wrong {
			writes(t, d, 0, []byte{9}, api.ErrDiskDown)
		}
		stands(t, d, true, 2)
		shows(t, d, append(laid(1, 1), laid(1, 2)...))
		// How often it was refused while down leaves nothing behind either.
		d.Cut(1)
		writes(t, d, 0, []byte{3}, api.OK)
		stands(t, d, true, 3)
	}
}

// Of a row of writes, a disk that is cut has just those ahead of the cut: all of each, and nothing of the ones behind.
func TestACutIsBetweenWrites(t *testing.T) {
	const count = 12
	for after := range count + 3 {
		cut, ahead := made(t, 4), made(t, 4)
		cut.Cut(after)
		for k := range count {
			b := bytes.Repeat([]byte{byte(k + 1)}, 1+k)
			err := cut.Write(k*3%4, b)
			if (err == api.OK) != (k < after) {
				t.Errorf("P17.3: cut after %d, write %d told %d", after, k, err)
			}
			if k < after {
				writes(t, ahead, k*3%4, b, api.OK)
			}
		}
		shows(t, cut, ahead.Bytes())
		stands(t, cut, after <= count, min(after, count))
	}
}
