package inode_test

import (
	"bytes"
	"reflect"
	"slices"
	"testing"

	"hayrick/alloc"
	"hayrick/api"
	"hayrick/disk"
	"hayrick/inode"
	"hayrick/store"
)

// Chapter 10's own geometry, and others: one group, as many as there may be, the greatest ones.
var (
	example = api.Geometry{Blocks: 300, PerGroup: 200, Inodes: 16, Journal: 96}
	single  = api.Geometry{Blocks: 128, PerGroup: 128, Inodes: 8, Journal: 96}
	narrow  = api.Geometry{Blocks: 13*105 + 7, PerGroup: 105, Inodes: 8, Journal: 96}
	full    = api.Geometry{Blocks: 4032, PerGroup: 2016, Inodes: 512, Journal: 97}
)

// all are these.
func all() []api.Geometry { return []api.Geometry{example, single, narrow, full} }

// plainPlace is where an inode stands, as chapter 4 says.
func plainPlace(g api.Geometry, ino int) (int, int) {
	group, place := (ino-1)/g.Inodes, (ino-1)%g.Inodes
	table := group*g.PerGroup + 2
	if group == 0 {
		table = g.Journal + 4
	}
	return table + place/2, place % 2 * 128
}

// count is how many inodes there are.
func count(g api.Geometry) int { return (g.Blocks + g.PerGroup - 1) / g.PerGroup * g.Inodes }

// rig is a store over a disk that was made, with what its blocks have to hold.
type rig struct {
	*testing.T
	g      api.Geometry
	s      *store.Store
	blocks [][]byte
}

func rigged(t *testing.T, g api.Geometry) *rig {
	t.Helper()
	d, e := disk.New(g.Blocks)
	if e != api.OK {
		t.Fatalf("disk.New(%d): %d", g.Blocks, e)
	}
	if e := alloc.Make(d, g); e != api.OK {
		t.Fatalf("Make(.., %v): %d", g, e)
	}
	s, e := store.New(d, 4, 16)
	if e != api.OK {
		t.Fatalf("store.New: %d", e)
	}
	return &rig{t, g, s, see(s).blocks}
}

// seen is all that a refused call leaves as it was.
type seen struct {
	mark    int
	changed []int
	waiting []api.Write
	held    []bool
	blocks  [][]byte
}

func see(s *store.Store) seen {
	x := seen{mark: s.Mark(), changed: s.Changed(), waiting: s.Waiting()}
	for n := range s.Blocks() {
		b, _ := s.Read(n)
		x.held, x.blocks = append(x.held, s.Held(n)), append(x.blocks, b)
	}
	return x
}

// same: do all blocks hold what they have to?
func (r *rig) same() {
	r.Helper()
	for n, want := range r.blocks {
		if b, e := r.s.Read(n); e != api.OK || !bytes.Equal(b, want) {
			r.Fatalf("block %d: %x %d, want %x", n, b, e, want)
		}
	}
}

// write lets a block hold something, whatever that is.
func (r *rig) write(n int, b []byte) {
	r.Helper()
	if e := r.s.Write(n, b); e != api.OK {
		r.Fatalf("Write(%d, ..): %d", n, e)
	}
	r.blocks[n] = bytes.Clone(b)
}

// bytesOf are those that an inode has to have.
func (r *rig) bytesOf(ino int) []byte {
	block, at := plainPlace(r.g, ino)
	return r.blocks[block][at : at+128]
}

// lay lets an inode's bytes be something, whatever that is.
func (r *rig) lay(ino int, b []byte) {
	r.Helper()
	copy(r.bytesOf(ino), b)
	block, _ := plainPlace(r.g, ino)
	r.write(block, r.blocks[block])
}

// wrote: has a call, ahead of which the mark was this one, written the block of an inode, once, so that all blocks hold what they have to?
func (r *rig) wrote(ino, mark int) {
	r.Helper()
	block, at := plainPlace(r.g, ino)
	if r.s.Mark() != mark+1 || !slices.Contains(r.s.Changed(), block) {
		r.Fatalf("inode %d: Mark %d, behind %d; Changed: %v", ino, r.s.Mark(), mark, r.s.Changed())
	}
	if b, e := r.s.Read(block); e != api.OK || !bytes.Equal(b, r.blocks[block]) {
		r.Fatalf("inode %d at byte %d of block %d: %x %d, want %x", ino, at, block, b, e, r.blocks[block])
	}
}

// put does it, and it must be done.
func (r *rig) put(ino int, x api.Inode) {
	r.Helper()
	mark, kept := r.s.Mark(), twin(x)
	if e := inode.Put(r.s, ino, x); e != api.OK {
		r.Fatalf("Put(s, %d, %v): %d", ino, x, e)
	}
	if !same(x, kept) {
		r.Fatalf("Put(s, %d, ..) changed what it was given", ino)
	}
	copy(r.bytesOf(ino), plainBytes(ino, x))
	r.wrote(ino, mark)
}

// clear does it, and it must be done.
func (r *rig) clear(ino int) {
	r.Helper()
	mark := r.s.Mark()
	if e := inode.Clear(r.s, ino); e != api.OK {
		r.Fatalf("Clear(s, %d): %d", ino, e)
	}
	copy(r.bytesOf(ino), make([]byte, 128))
	r.wrote(ino, mark)
}

// gets: does Get answer just this, and change nothing?
func (r *rig) gets(ino int, want api.Inode, f api.Errno) {
	r.Helper()
	mark, changed := r.s.Mark(), r.s.Changed()
	if x, e := inode.Get(r.s, ino); !same(x, want) || e != f {
		r.Fatalf("Get(s, %d): %v %d, want %v %d", ino, x, e, want, f)
	}
	if r.s.Mark() != mark || !slices.Equal(r.s.Changed(), changed) {
		r.Fatalf("Get(s, %d) changed something", ino)
	}
}

// refused: is each call refused with its error, and all left as it was?
func (r *rig) refused(ino int, x api.Inode, get, put, clear api.Errno) {
	r.Helper()
	was := see(r.s)
	if got, e := inode.Get(r.s, ino); !same(got, api.Inode{}) || e != get {
		r.Errorf("Get(s, %d): %v %d, want %d", ino, got, e, get)
	}
	if e := inode.Put(r.s, ino, x); e != put {
		r.Errorf("Put(s, %d, %v): %d, want %d", ino, x, e, put)
	}
	if e := inode.Clear(r.s, ino); e != clear {
		r.Errorf("Clear(s, %d): %d, want %d", ino, e, clear)
	}
	if !reflect.DeepEqual(see(r.s), was) {
		r.Fatalf("inode %d: what was refused changed something", ino)
	}
}
