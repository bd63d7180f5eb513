package disk_test

import (
	"bytes"
	"math/rand"
	"testing"

	"hayrick/api"
	"hayrick/disk"
)

// filled is a block of one byte, over and over.
func filled(x byte) []byte {
	return bytes.Repeat([]byte{x}, api.BlockSize)
}

// made is a disk that must be made.
func made(t *testing.T, blocks int) *disk.Disk {
	t.Helper()
	d, e := disk.New(blocks)
	if e != api.OK || d == nil {
		t.Fatalf("New(%d): %v %d", blocks, d, e)
	}
	return d
}

// write is a Write that must not be refused.
func write(t *testing.T, d *disk.Disk, n int, x byte) {
	t.Helper()
	if e := d.Write(n, filled(x)); e != api.OK {
		t.Fatalf("Write(%d, ..): %d", n, e)
	}
}

// holds: does block n hold x over and over?
func holds(t *testing.T, d *disk.Disk, n int, x byte) {
	t.Helper()
	b, e := d.Read(n)
	if e != api.OK || !bytes.Equal(b, filled(x)) {
		t.Errorf("Read(%d): %x %d, want %d all over", n, b, e, x)
	}
}

// pends: is it just these writes that are pending?
func pends(t *testing.T, d *disk.Disk, want ...api.Write) {
	t.Helper()
	if got := d.Pending(); !sameWrites(got, want) {
		t.Errorf("Pending: %d writes %v, want %d", len(got), blocksOf(got), len(want))
	}
}

func sameWrites(a, b []api.Write) bool {
	if len(a) != len(b) {
		return false
	}
	for i := range a {
		if a[i].Block != b[i].Block || !bytes.Equal(a[i].Data, b[i].Data) {
			return false
		}
	}
	return true
}

func blocksOf(l []api.Write) []int {
	var out []int
	for _, w := range l {
		out = append(out, w.Block)
	}
	return out
}

// plain is a disk as the document tells it: all blocks as they stand for good, and the writes that are pending.
type plain struct {
	done    [][]byte
	pending []api.Write
	ops     int
}

func newPlain(blocks int) *plain {
	p := &plain{done: make([][]byte, blocks)}
	for i := range p.done {
		p.done[i] = filled(0)
	}
	return p
}

func (p *plain) read(n int) []byte {
	b := p.done[n]
	for _, w := range p.pending {
		if w.Block == n {
			b = w.Data
		}
	}
	return b
}

func (p *plain) write(n int, b []byte) {
	p.pending = append(p.pending, api.Write{Block: n, Data: b})
	p.ops++
}

func (p *plain) flush() {
	keep := make([]bool, len(p.pending))
	for i := range keep {
		keep[i] = true
	}
	p.crash(keep)
	p.ops++
}

func (p *plain) crash(keep []bool) {
	for i, w := range p.pending {
		if i < len(keep) && keep[i] {
			p.done[w.Block] = w.Data
		}
	}
	p.pending = nil
}

// twin is another one; bytes are never written into here, so they may be shared.
func (p *plain) twin() *plain {
	return &plain{
		done:    append([][]byte(nil), p.done...),
		pending: append([]api.Write(nil), p.pending...),
		ops:     p.ops,
	}
}

// same: is all of d what the plain one says?
func same(t *testing.T, d *disk.Disk, p *plain) {
	t.Helper()
	if d.Blocks() != len(p.done) || d.Ops() != p.ops {
		t.Fatalf("Blocks, Ops: %d %d, want %d %d", d.Blocks(), d.Ops(), len(p.done), p.ops)
	}
	if got := d.Pending(); !sameWrites(got, p.pending) {
		t.Fatalf("Pending: %v, want %v", blocksOf(got), blocksOf(p.pending))
	}
	for n := range p.done {
		if b, e := d.Read(n); e != api.OK || !bytes.Equal(b, p.read(n)) {
			t.Fatalf("Read(%d): %x %d, want %x", n, b, e, p.read(n))
		}
	}
}

// draws is n answers yes or no.
func draws(draw *rand.Rand, n int) []bool {
	l := make([]bool, n)
	for i := range l {
		l[i] = draw.Intn(2) == 1
	}
	return l
}

// P2.1 to P2.4: any calls in any order do to a disk, and to its copies, what they do to a plain one.
func TestPlainDisk(t *testing.T) {
	draw := rand.New(rand.NewSource(2))
	const blocks = api.MinBlocks
	disks, plains := []*disk.Disk{made(t, blocks)}, []*plain{newPlain(blocks)}
	for range 4000 {
		i := draw.Intn(len(disks))
		d, p := disks[i], plains[i]
		switch k := draw.Intn(40); {
		case k < 24: // most blocks are written again and again
			b := make([]byte, api.BlockSize)
			draw.Read(b)
			n := draw.Intn(12)
			if draw.Intn(8) == 0 {
				n = draw.Intn(blocks)
			}
			if e := d.Write(n, b); e != api.OK {
				t.Fatalf("Write(%d, ..): %d", n, e)
			}
			p.write(n, bytes.Clone(b))
			draw.Read(b) // what was handed in is the caller's again
		case k < 28:
			d.Flush()
			p.flush()
		case k < 32:
			keep := draws(draw, draw.Intn(2*len(p.pending)+2))
			d.Crash(keep)
			p.crash(keep)
		case k < 36:
			d.Write(-1-draw.Intn(9), filled(1))
			d.Write(blocks+draw.Intn(9), filled(1))
			d.Write(draw.Intn(blocks), make([]byte, draw.Intn(api.BlockSize)))
		case k < 38 && len(disks) < 5:
			disks, plains = append(disks, d.Copy()), append(plains, p.twin())
		}
		same(t, d, p)
	}
	for i := range disks {
		same(t, disks[i], plains[i])
	}
}
