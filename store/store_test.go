package store_test

import (
	"bytes"
	"math"
	"testing"

	"hayrick/api"
	"hayrick/disk"
	"hayrick/store"
)

// notIn are numbers that no block of a disk of that many has.
func notIn(blocks int) []int {
	return []int{math.MinInt, -1 << 32, -blocks, -1, blocks, blocks + 1, api.MaxBlocks, 1 << 32, math.MaxInt}
}

// P6.1: a store in which nothing is changed, waiting, held or cached.
func TestNew(t *testing.T) {
	for _, blocks := range []int{api.MinBlocks, 300, api.MaxBlocks} {
		for _, x := range [][2]int{{1, 1}, {1, 256}, {16, 1}, {16, 256}, {3, 64}} {
			s, d := made(t, blocks, x[0], x[1])
			if s.Blocks() != blocks {
				t.Errorf("Blocks: %d, want %d", s.Blocks(), blocks)
			}
			marks(t, s, 0)
			changes(t, s)
			waits(t, s)
			holds(t, s)
			counts(t, s, 0, 0)
			commits(t, s)
			reads(t, s, 0, 0)
			reads(t, s, blocks-1, 0)
			counts(t, s, 0, 2)
			if d.Ops() != 0 {
				t.Errorf("the disk's Ops: %d", d.Ops())
			}
		}
	}
}

// P6.1: nothing and EINVAL of a disk without blocks, and of other shards and rooms.
func TestNewWrong(t *testing.T) {
	d := onDisk(t, api.MinBlocks)
	refused := func(d *disk.Disk, shards, room int) {
		t.Helper()
		if s, e := store.New(d, shards, room); s != nil || e != api.EINVAL {
			t.Errorf("New(%d blocks, %d, %d): %v %d", d.Blocks(), shards, room, s, e)
		}
	}
	for _, none := range []*disk.Disk{nil, {}} {
		refused(none, 1, 1)
		refused(none, 16, 256)
		refused(none, 0, 0)
	}
	for _, shards := range []int{math.MinInt, -1, 0, 17, 1 << 32, 1<<32 + 1, math.MaxInt} {
		refused(d, shards, 1)
		refused(d, shards, 0)
	}
	for _, room := range []int{math.MinInt, -1, 0, 257, 1 << 32, 1<<32 + 1, math.MaxInt} {
		refused(d, 1, room)
		refused(d, 16, room)
	}
}

// P6.1: a nil store, and one that New has not made, have no blocks, whatever was asked of them.
func TestNotMade(t *testing.T) {
	for _, s := range []*store.Store{nil, {}} {
		for range 2 {
			for _, n := range append(notIn(api.MinBlocks), 0, 1, 7) {
				if b, e := s.Read(n); b != nil || e != api.EIO {
					t.Errorf("Read(%d): %x %d", n, b, e)
				}
				for _, size := range []int{0, api.BlockSize} {
					if e := s.Write(n, make([]byte, size)); e != api.EIO {
						t.Errorf("Write(%d, %d bytes): %d", n, size, e)
					}
				}
				if held, back, home := s.Hold(n), s.Back(n), s.Home(n); held != api.EINVAL || back != api.EINVAL || home != api.EINVAL {
					t.Errorf("Hold, Back, Home(%d): %d %d %d", n, held, back, home)
				}
			}
			s.Release()
			if s.Blocks() != 0 {
				t.Errorf("Blocks: %d", s.Blocks())
			}
			commits(t, s)
			waits(t, s)
			holds(t, s)
			counts(t, s, 0, 0)
		}
	}
}

// P6.2: a Read answers the bytes as changed, else as waiting, else as cached, else the disk's; the first three are found in memory.
func TestReadOrder(t *testing.T) {
	d := onDisk(t, api.MinBlocks)
	if e := d.Write(5, filled(1)); e != api.OK {
		t.Fatal(e)
	}
	s := over(t, d, 4, 4)
	reads(t, s, 5, 1)
	counts(t, s, 0, 1)
	// Only what lies in the cache can be told from the disk so.
	if e := d.Write(5, filled(9)); e != api.OK {
		t.Fatal(e)
	}
	reads(t, s, 5, 1)
	counts(t, s, 1, 1)
	write(t, s, 5, 2)
	reads(t, s, 5, 2)
	commits(t, s, api.Write{Block: 5, Data: filled(2)})
	reads(t, s, 5, 2)
	write(t, s, 5, 3)
	reads(t, s, 5, 3)
	counts(t, s, 4, 1)
	back(t, s, 0)
	reads(t, s, 5, 2)
	home(t, s, 5)
	reads(t, s, 5, 2)
	counts(t, s, 6, 1)
}

// P6.2: EIO where there is no block, which Counts doesn't count.
func TestReadWrong(t *testing.T) {
	const blocks = 200
	s, _ := made(t, blocks, 4, 4)
	reads(t, s, 3, 0)
	for _, n := range notIn(blocks) {
		if b, e := s.Read(n); b != nil || e != api.EIO {
			t.Errorf("Read(%d): %x %d", n, b, e)
		}
	}
	counts(t, s, 0, 1)
	cached(t, s, []int{3}, []bool{true})
}

// P6.2: the chapter's own example: the one that was used longest ago goes.
func TestCacheExample(t *testing.T) {
	s, _ := made(t, api.MinBlocks, 1, 2)
	cached(t, s, []int{1, 2, 1, 3, 1, 2}, []bool{false, false, true, false, true, false})
	counts(t, s, 2, 4)
}

// P6.2: a shard, by the block's number modulo shards, has room for just as many as room says, and loses none for what is read of others.
func TestShardsByThemselves(t *testing.T) {
	for _, shards := range []int{1, 2, 5, 15, 16} {
		for _, room := range []int{1, 2, 7, 255, 256} {
			s, _ := made(t, api.MaxBlocks, shards, room)
			more := shards * room // the first block for which there is no room
			for n := range more {
				cached(t, s, []int{n}, []bool{false})
			}
			for n := range more {
				cached(t, s, []int{n}, []bool{true})
			}
			if more == api.MaxBlocks {
				continue
			}
			cached(t, s, []int{more}, []bool{false})
			for n := 1; n <= more; n++ {
				cached(t, s, []int{n}, []bool{true})
			}
			cached(t, s, []int{0}, []bool{false})
		}
	}
}

// P6.2: a Read of a block that is changed or waiting lets none go from the cache, and counts as found.
func TestReadsInMemoryUseNoCache(t *testing.T) {
	s, _ := made(t, api.MinBlocks, 1, 2)
	write(t, s, 10, 1)
	commits(t, s, api.Write{Block: 10, Data: filled(1)})
	write(t, s, 11, 2)
	cached(t, s, []int{1, 2}, []bool{false, false})
	for range 3 {
		reads(t, s, 10, 1)
		reads(t, s, 11, 2)
	}
	counts(t, s, 6, 2)
	cached(t, s, []int{1, 2}, []bool{true, true})
}

// P6.3: what was written last is read; Changed tells the blocks once each, rising; nothing of it goes to the disk.
func TestWrite(t *testing.T) {
	const blocks = 300
	s, d := made(t, blocks, 4, 4)
	for i, n := range []int{7, blocks - 1, 0, 7, 8, 0} {
		write(t, s, n, byte(i+1))
		reads(t, s, n, byte(i+1))
	}
	changes(t, s, 0, 7, 8, blocks-1)
	marks(t, s, 6)
	reads(t, s, 7, 4)
	reads(t, s, 0, 6)
	reads(t, s, 1, 0)
	b := make([]byte, api.BlockSize)
	for i := range b {
		b[i] = byte(i)
	}
	if e := s.Write(5, b); e != api.OK {
		t.Fatal(e)
	}
	if got, e := s.Read(5); e != api.OK || !bytes.Equal(got, b) {
		t.Errorf("Read(5): %x %d", got, e)
	}
	waits(t, s)
	if d.Ops() != 0 {
		t.Errorf("the disk's Ops: %d", d.Ops())
	}
}

// P6.3: EIO where there is no block, ahead of EINVAL of other lengths; what is refused changes nothing, and is in no mark.
func TestWriteWrong(t *testing.T) {
	const blocks = 200
	s, _ := made(t, blocks, 4, 4)
	write(t, s, 3, 1)
	cached(t, s, []int{4}, []bool{false})
	for _, size := range []int{0, 1, api.BlockSize - 1, api.BlockSize + 1, 2 * api.BlockSize} {
		for _, n := range notIn(blocks) {
			if e := s.Write(n, make([]byte, size)); e != api.EIO {
				t.Errorf("Write(%d, %d bytes): %d", n, size, e)
			}
			if e := s.Write(n, filled(1)); e != api.EIO {
				t.Errorf("Write(%d, ..): %d", n, e)
			}
		}
		for _, n := range []int{0, 3, 4, blocks - 1} {
			if e := s.Write(n, make([]byte, size)); e != api.EINVAL {
				t.Errorf("Write(%d, %d bytes): %d", n, size, e)
			}
		}
	}
	if e := s.Write(3, nil); e != api.EINVAL {
		t.Errorf("Write(3, nil): %d", e)
	}
	marks(t, s, 1)
	changes(t, s, 3)
	reads(t, s, 3, 1)
	cached(t, s, []int{4}, []bool{true})
}

// P6.3: a block that is written is gone from the cache, where there is room for another one then.
func TestWriteLeavesCache(t *testing.T) {
	s, _ := made(t, api.MinBlocks, 1, 2)
	cached(t, s, []int{1, 2}, []bool{false, false})
	write(t, s, 2, 5)
	cached(t, s, []int{3, 1}, []bool{false, true})
	back(t, s, 0)
	cached(t, s, []int{2, 1, 3}, []bool{false, true, false})
}

// P6.3: blocks that are there are held, whatever else is done with them; others are not.
func TestHold(t *testing.T) {
	const blocks = 200
	s, _ := made(t, blocks, 4, 4)
	for _, n := range []int{9, 0, blocks - 1, 9} {
		hold(t, s, n)
	}
	holds(t, s, 0, 9, blocks-1)
	marks(t, s, 4)
	for _, n := range notIn(blocks) {
		if e := s.Hold(n); e != api.EINVAL {
			t.Errorf("Hold(%d): %d", n, e)
		}
		if s.Held(n) {
			t.Errorf("Held(%d)", n)
		}
	}
	marks(t, s, 4)
	changes(t, s)
	write(t, s, 9, 1)
	holds(t, s, 0, 9, blocks-1)
	counts(t, s, 0, 0)
}
