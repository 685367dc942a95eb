package disk_test

import (
	"bytes"
	"fmt"
	"math/rand/v2"
	"testing"

	"redress/api"
	"redress/disk"
)

// deed is what was done to a disk: a write, a cut, or that it is up.
type deed struct {
	what string
	n    int // the block, or after how many
	b    []byte
}

// saying is deed, as a text.
func (x deed) String() string { return fmt.Sprintf("%s(%d, % x)", x.what, x.n, x.b) }

// do does x to d.
func (x deed) do(d *disk.Disk) api.Errno {
	switch x.what {
	case "write":
		return d.Write(x.n, x.b)
	case "cut":
		d.Cut(x.n)
	case "up":
		d.Up()
	}
	return api.OK
}

// past is all that was done to a disk that had those bytes at first, and what each of that should have told.
type past struct {
	first []byte
	deeds []deed
	told  []api.Errno
}

// isDown tells, of all that was done, whether the disk is down: by the last cut and the writes behind it alone.
func (p *past) isDown() bool {
	wrote := 0
	for k := len(p.deeds) - 1; k >= 0; k-- {
		switch x := p.deeds[k]; {
		case x.what == "up":
			return false
		case x.what == "cut":
			return x.n <= wrote
		case p.told[k] == api.OK:
			wrote++
		}
	}
	return false
}

// bytes tells the bytes of the disk: of each block, those of the last write into it that told OK.
func (p *past) bytes() []byte {
	all := bytes.Clone(p.first)
	for at := range all {
		for k, x := range p.deeds {
			if x.what != "write" || p.told[k] != api.OK || x.n != at/16 {
				continue
			}
			all[at] = 0
			if at%16 < len(x.b) {
				all[at] = x.b[at%16]
			}
		}
	}
	return all
}

// writes tells how many writes told OK.
func (p *past) writes() int {
	count := 0
	for k, x := range p.deeds {
		if x.what == "write" && p.told[k] == api.OK {
			count++
		}
	}
	return count
}

// should tells what x should tell now.
func (p *past) should(x deed) api.Errno {
	switch {
	case x.what != "write":
		return api.OK
	case x.n < 0 || x.n >= len(p.first)/16 || len(x.b) > 16:
		return api.ErrArg
	case p.isDown():
		return api.ErrDiskDown
	}
	return api.OK
}

// goesOn does x to d, and holds all that d tells behind that against p.
func (p *past) goesOn(t *testing.T, d *disk.Disk, x deed) {
	t.Helper()
	want := p.should(x)
	got := x.do(d)
	p.deeds, p.told = append(p.deeds, x), append(p.told, want)
	if got != want {
		t.Errorf("P17.2: %v: the last one told %d, want %d", p.deeds, got, want)
	}
	if d.Down() != p.isDown() {
		t.Errorf("P17.3: %v: down: %v, want %v", p.deeds, d.Down(), p.isDown())
	}
	if d.Writes() != p.writes() {
		t.Errorf("P17.2: %v: %d writes, want %d", p.deeds, d.Writes(), p.writes())
	}
}

// alphabet is what is done to a disk of two blocks, in each order.
func alphabet() []deed {
	return []deed{
		{"write", 0, []byte{7}},
		{"write", 1, []byte{8, 9}},
		{"write", 1, nil},
		{"write", 2, []byte{1}},
		{"write", 0, make([]byte, 17)},
		{"cut", -1, nil},
		{"cut", 0, nil},
		{"cut", 1, nil},
		{"cut", 2, nil},
		{"cut", 3, nil},
		{"up", 0, nil},
	}
}

func TestAllShortPasts(t *testing.T) {
	letters := alphabet()
	first := bytes.Repeat([]byte{3}, 32)
	for length, rows := 0, 1; length <= 4; length, rows = length+1, rows*len(letters) {
		for row := range rows {
			d := loaded(t, first)
			p := &past{first: first}
			for k, rest := 0, row; k < length; k, rest = k+1, rest/len(letters) {
				p.goesOn(t, d, letters[rest%len(letters)])
			}
			if !bytes.Equal(d.Bytes(), p.bytes()) {
				t.Errorf("P17.2: %v: % x, want % x", p.deeds, d.Bytes(), p.bytes())
			}
			if t.Failed() {
				return
			}
		}
	}
}

// byChance is some deed to a disk of so many blocks.
func byChance(r *rand.Rand, blocks int) deed {
	switch r.IntN(10) {
	case 0:
		return deed{"cut", r.IntN(12) - 2, nil}
	case 1:
		return deed{"up", 0, nil}
	}
	b := make([]byte, r.IntN(19))
	for k := range b {
		b[k] = byte(r.Uint32())
	}
	return deed{"write", r.IntN(blocks+2) - 1, b}
}

func TestLongPastsByChance(t *testing.T) {
	r := rand.New(rand.NewPCG(17, 1))
	for range 60 {
		blocks := 1 + r.IntN(9)
		first := make([]byte, blocks*16)
		for k := range first {
			first[k] = byte(r.Uint32())
		}
		d := loaded(t, first)
		p := &past{first: first}
		for range 60 {
			p.goesOn(t, d, byChance(r, blocks))
			shows(t, d, p.bytes())
			if t.Failed() {
				return
			}
		}
	}
}
