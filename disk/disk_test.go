package disk_test

import (
	"bytes"
	"math"
	"math/rand"
	"slices"
	"testing"

	"hayrick/api"
	"hayrick/disk"
)

var notSizes = []int{math.MinInt, -api.MinBlocks, -1, 0, 1, api.MinBlocks - 1, api.MaxBlocks + 1, 1 << 32, math.MaxInt}

var notLengths = []int{0, 1, api.BlockSize - 1, api.BlockSize + 1, 2 * api.BlockSize}

// P2.1: a disk of noughts, of as many blocks as were asked for.
func TestNew(t *testing.T) {
	for _, blocks := range []int{api.MinBlocks, api.MinBlocks + 1, 300, api.MaxBlocks - 1, api.MaxBlocks} {
		d := made(t, blocks)
		if d.Blocks() != blocks || d.Ops() != 0 {
			t.Errorf("New(%d): Blocks %d, Ops %d", blocks, d.Blocks(), d.Ops())
		}
		pends(t, d)
		for n := range blocks {
			holds(t, d, n, 0)
		}
		write(t, d, 0, 1)
		write(t, d, blocks-1, 2)
		d.Flush()
		holds(t, d, 0, 1)
		holds(t, d, blocks-1, 2)
	}
}

// P2.1: nothing and EINVAL of other numbers.
func TestNewWrong(t *testing.T) {
	for _, blocks := range notSizes {
		if d, e := disk.New(blocks); d != nil || e != api.EINVAL {
			t.Errorf("New(%d): %v %d", blocks, d, e)
		}
	}
}

// P2.1: a nil disk, one that New has not made, and copies of them, have no blocks, whatever was asked of them.
func TestNotMade(t *testing.T) {
	var none *disk.Disk
	for _, d := range []*disk.Disk{none, {}, none.Copy(), new(disk.Disk).Copy(), new(disk.Disk).Copy().Copy()} {
		for range 2 {
			for _, n := range []int{math.MinInt, -1, 0, 1, api.MinBlocks, math.MaxInt} {
				if b, e := d.Read(n); b != nil || e != api.EIO {
					t.Errorf("Read(%d): %x %d", n, b, e)
				}
				for _, size := range []int{0, 1, api.BlockSize} {
					if e := d.Write(n, make([]byte, size)); e != api.EIO {
						t.Errorf("Write(%d, %d bytes): %d", n, size, e)
					}
				}
			}
			d.Flush()
			d.Crash(nil)
			d.Crash([]bool{true, false})
			pends(t, d)
			if d.Blocks() != 0 || d.Ops() != 0 {
				t.Errorf("Blocks %d, Ops %d", d.Blocks(), d.Ops())
			}
		}
	}
}

// P2.2: what was written last is read, pending or not; each Write and each Flush is one of the Ops.
func TestWriteReadFlush(t *testing.T) {
	d := made(t, 200)
	write(t, d, 7, 1)
	write(t, d, 8, 2)
	write(t, d, 7, 3)
	holds(t, d, 7, 3)
	holds(t, d, 8, 2)
	holds(t, d, 9, 0)
	pends(t, d, api.Write{Block: 7, Data: filled(1)}, api.Write{Block: 8, Data: filled(2)}, api.Write{Block: 7, Data: filled(3)})
	if d.Ops() != 3 {
		t.Errorf("Ops behind three writes: %d", d.Ops())
	}
	d.Flush()
	pends(t, d)
	holds(t, d, 7, 3)
	holds(t, d, 8, 2)
	if d.Ops() != 4 {
		t.Errorf("Ops behind a flush: %d", d.Ops())
	}
	d.Flush()
	if d.Ops() != 5 {
		t.Errorf("Ops behind a flush of nothing: %d", d.Ops())
	}
	write(t, d, 7, 0)
	holds(t, d, 7, 0)
	pends(t, d, api.Write{Block: 7, Data: filled(0)})
	if d.Read(7); d.Ops() != 6 {
		t.Errorf("Ops behind a write more: %d", d.Ops())
	}
}

// P2.2: bytes are told one from the other, in their places.
func TestBytesInPlace(t *testing.T) {
	d := made(t, api.MinBlocks)
	b := make([]byte, api.BlockSize)
	for i := range b {
		b[i] = byte(i)
	}
	if e := d.Write(5, b); e != api.OK {
		t.Fatal(e)
	}
	for range 2 {
		if got, e := d.Read(5); e != api.OK || !bytes.Equal(got, b) {
			t.Errorf("Read(5): %x %d", got, e)
		}
		d.Flush()
	}
}

// P2.2: EIO where there is no block, ahead of EINVAL of other lengths; what is refused changes nothing.
func TestRefused(t *testing.T) {
	const blocks = 200
	d := made(t, blocks)
	write(t, d, 0, 1)
	d.Flush()
	write(t, d, blocks-1, 2)
	for _, n := range []int{math.MinInt, -blocks, -1, blocks, blocks + 1, api.MaxBlocks, 1 << 32, math.MaxInt} {
		if b, e := d.Read(n); b != nil || e != api.EIO {
			t.Errorf("Read(%d): %x %d", n, b, e)
		}
		for _, size := range append(notLengths, api.BlockSize) {
			if e := d.Write(n, make([]byte, size)); e != api.EIO {
				t.Errorf("Write(%d, %d bytes): %d", n, size, e)
			}
		}
	}
	for _, n := range []int{0, 1, blocks - 1} {
		if e := d.Write(n, nil); e != api.EINVAL {
			t.Errorf("Write(%d, nil): %d", n, e)
		}
		for _, size := range notLengths {
			if e := d.Write(n, make([]byte, size)); e != api.EINVAL {
				t.Errorf("Write(%d, %d bytes): %d", n, size, e)
			}
		}
	}
	if d.Ops() != 3 {
		t.Errorf("Ops: %d, want 3", d.Ops())
	}
	pends(t, d, api.Write{Block: blocks - 1, Data: filled(2)})
	holds(t, d, 0, 1)
	holds(t, d, 1, 0)
	holds(t, d, blocks-1, 2)
}

// P2.3: the chapter's own example.
func TestCrashExample(t *testing.T) {
	d := made(t, 300)
	write(t, d, 3, 7)
	d.Flush()
	write(t, d, 3, 8)
	write(t, d, 4, 9)
	d.Crash([]bool{false, true})
	holds(t, d, 3, 7)
	holds(t, d, 4, 9)
	pends(t, d)
	if d.Ops() != 4 {
		t.Errorf("Ops: %d, want 4", d.Ops())
	}
}

// P2.3: of four writes, three of one block, a crash may keep any; keep may have too few places, or too many.
func TestCrash(t *testing.T) {
	blocks := []int{3, 4, 3, 3}
	for set := range 1 << len(blocks) {
		for places := range len(blocks) + 3 {
			d := made(t, api.MinBlocks)
			write(t, d, 3, 100)
			d.Flush()
			want := map[int]byte{3: 100, 4: 0, 5: 0}
			keep := make([]bool, places)
			for i := range places {
				keep[i] = i >= len(blocks) || set>>i&1 == 1
			}
			for i, n := range blocks {
				write(t, d, n, byte(i+1))
				if i < places && keep[i] {
					want[n] = byte(i + 1)
				}
			}
			d.Crash(keep)
			for n, x := range want {
				holds(t, d, n, x)
			}
			pends(t, d)
			if d.Ops() != 6 {
				t.Errorf("Ops behind a crash: %d, want 6", d.Ops())
			}
			// What is lost or kept now is so for good.
			write(t, d, 5, 50)
			d.Crash(nil)
			for n, x := range want {
				holds(t, d, n, x)
			}
		}
	}
}

// P2.3: a copy has the same blocks, pending writes and Ops; what is done to one is not seen in the other.
func TestCopy(t *testing.T) {
	d := made(t, 150)
	write(t, d, 1, 1)
	d.Flush()
	write(t, d, 1, 2)
	write(t, d, 2, 3)
	c := d.Copy()
	if c.Blocks() != 150 || c.Ops() != 4 {
		t.Errorf("Blocks %d, Ops %d, want 150 4", c.Blocks(), c.Ops())
	}
	pending := []api.Write{{Block: 1, Data: filled(2)}, {Block: 2, Data: filled(3)}}
	pends(t, c, pending...)
	holds(t, c, 1, 2)
	holds(t, c, 2, 3)
	holds(t, c, 3, 0)

	write(t, c, 3, 4)
	c.Crash([]bool{false, true, true})
	c.Flush()
	pends(t, d, pending...)
	holds(t, d, 1, 2)
	holds(t, d, 3, 0)
	if d.Ops() != 4 || c.Ops() != 6 {
		t.Errorf("Ops %d, of the copy %d, want 4 6", d.Ops(), c.Ops())
	}
	write(t, d, 4, 5)
	write(t, d, 1, 6)
	d.Flush()
	pends(t, c)
	holds(t, c, 1, 1)
	holds(t, c, 2, 3)
	holds(t, c, 3, 4)
	holds(t, c, 4, 0)
}

// P2.3: pending writes of a copy, and of what it was made of, go behind those that both have, not into one list.
func TestCopyThenWrite(t *testing.T) {
	d := made(t, api.MinBlocks)
	for i := range 5 {
		write(t, d, i, 1)
		c := d.Copy()
		write(t, c, 100, 2)
		write(t, d, 101, 3)
		if got := blocksOf(c.Pending()); got[len(got)-1] != 100 || len(got) != 2*i+2 {
			t.Errorf("of the copy: %v", got)
		}
		if got := blocksOf(d.Pending()); got[len(got)-1] != 101 || len(got) != 2*i+2 {
			t.Errorf("of the disk: %v", got)
		}
	}
}

// R3: what is handed in is neither changed nor kept; what is answered is new memory, and shares none.
func TestNothingShared(t *testing.T) {
	d := made(t, api.MinBlocks)
	b := filled(1)
	d.Write(0, b)
	if !bytes.Equal(b, filled(1)) {
		t.Error("Write changed what it was given")
	}
	clear(b)
	c := d.Copy()
	for _, x := range []*disk.Disk{d, c} {
		for range 2 {
			for _, n := range []int{0, 1} {
				got, _ := x.Read(n)
				got[0] = 9
			}
			for _, w := range x.Pending() {
				w.Data[0] = 9
			}
			if l := x.Pending(); len(l) > 0 {
				l[0].Block = 9
			}
			holds(t, d, 0, 1)
			holds(t, d, 1, 0)
			holds(t, c, 0, 1)
			x.Flush()
		}
	}
	keep := []bool{true, false}
	write(t, d, 0, 5)
	d.Crash(keep)
	if !keep[0] || keep[1] {
		t.Error("Crash changed what it was given")
	}
}

// P2.4: a crash behind a flush changes nothing, whatever it keeps.
func TestFlushStands(t *testing.T) {
	draw := rand.New(rand.NewSource(3))
	for range 50 {
		d, p := someDisk(t, draw)
		d.Flush()
		p.flush()
		for range 3 {
			d.Crash(draws(draw, draw.Intn(40)))
			same(t, d, p)
		}
	}
}

// P2.4: a crash that keeps all is a flush, but for Ops.
func TestCrashThatKeepsAll(t *testing.T) {
	draw := rand.New(rand.NewSource(4))
	for range 50 {
		d, p := someDisk(t, draw)
		keep := make([]bool, len(d.Pending()))
		for i := range keep {
			keep[i] = true
		}
		d.Crash(keep)
		p.flush()
		p.ops--
		same(t, d, p)
	}
}

// P2.4: a block that no pending write is of is as it was, whatever a crash keeps; others hold what they held, or what some pending write of them wrote.
func TestCrashLeavesOthers(t *testing.T) {
	draw := rand.New(rand.NewSource(5))
	for range 50 {
		d, p := someDisk(t, draw)
		may := map[int][][]byte{}
		for n, b := range p.done {
			may[n] = [][]byte{b}
		}
		for _, w := range d.Pending() {
			may[w.Block] = append(may[w.Block], w.Data)
		}
		d.Crash(draws(draw, draw.Intn(60)))
		for n, l := range may {
			b, e := d.Read(n)
			wrote := slices.ContainsFunc(l, func(x []byte) bool { return bytes.Equal(x, b) })
			if e != api.OK || !wrote {
				t.Fatalf("Read(%d): %x %d: nobody wrote that", n, b, e)
			}
		}
	}
}

// someDisk is a disk that was written to, flushed here and there, with writes that are pending; and the plain one of it.
func someDisk(t *testing.T, draw *rand.Rand) (*disk.Disk, *plain) {
	t.Helper()
	d, p := made(t, api.MinBlocks), newPlain(api.MinBlocks)
	for i := range 20 + draw.Intn(40) {
		n, b := draw.Intn(30), make([]byte, api.BlockSize)
		draw.Read(b)
		if e := d.Write(n, b); e != api.OK {
			t.Fatalf("Write(%d, ..): %d", n, e)
		}
		p.write(n, b)
		if i < 15 && draw.Intn(4) == 0 {
			d.Flush()
			p.flush()
		}
	}
	return d, p
}

// R1, P2.2: the cost of a Read hangs not on how many writes are pending.
func TestManyPending(t *testing.T) {
	d := made(t, api.MaxBlocks)
	const rounds = 40
	for i := range rounds {
		for n := range api.MaxBlocks {
			d.Write(n, filled(byte(n+i)))
		}
		for n := range api.MaxBlocks {
			if b, e := d.Read(n); e != api.OK || b[0] != byte(n+i) {
				t.Fatalf("Read(%d): %d", n, e)
			}
		}
	}
	if got := len(d.Pending()); got != rounds*api.MaxBlocks {
		t.Fatalf("Pending: %d", got)
	}
	d.Crash(make([]bool, rounds*api.MaxBlocks))
	for n := range api.MaxBlocks {
		holds(t, d, n, 0)
	}
}
