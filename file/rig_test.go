package file_test

import (
	"bytes"
	"math"
	"reflect"
	"slices"
	"testing"

	"hayrick/alloc"
	"hayrick/api"
	"hayrick/disk"
	"hayrick/extent"
	"hayrick/file"
	"hayrick/store"
)

// Chapter 10's own geometry, and a wide one.
var (
	example = api.Geometry{Blocks: 300, PerGroup: 200, Inodes: 16, Journal: 96}
	wide    = api.Geometry{Blocks: 4096, PerGroup: 2016, Inodes: 122, Journal: 512}
)

// below are numbers that are below 0; beyond such as come round where others are added to them.
var (
	below  = []int{-1, -255, -256, -257, -2048, -65536, -1 << 32, math.MinInt + 1, math.MinInt}
	beyond = []int{1<<32 - 1, 1 << 32, 1<<32 + 1, math.MaxInt - 65536, math.MaxInt - 255, math.MaxInt - 1, math.MaxInt}
)

// made is a store over a disk that was made, whose data hold sevens: so it shows where a block is not blanked.
func made(t *testing.T, g api.Geometry) *store.Store {
	t.Helper()
	d, e := disk.New(g.Blocks)
	if e != api.OK {
		t.Fatalf("disk.New(%d): %d", g.Blocks, e)
	}
	for n := range g.Blocks {
		d.Write(n, bytes.Repeat([]byte{7}, api.BlockSize))
	}
	if e := alloc.Make(d, g); e != api.OK {
		t.Fatalf("Make(.., %v): %d", g, e)
	}
	s, e := store.New(d, 4, 16)
	if e != api.OK {
		t.Fatalf("store.New: %d", e)
	}
	return s
}

// nobody is a disk that was not made.
func nobody(t *testing.T) *store.Store {
	t.Helper()
	d, _ := disk.New(300)
	s, e := store.New(d, 4, 16)
	if e != api.OK {
		t.Fatalf("store.New: %d", e)
	}
	return s
}

// empty is the record of a file of no blocks, each other field of which has a number of its own.
func empty() api.Inode {
	return api.Inode{Kind: api.KindFile, Perm: 420, Uid: 11, Gid: 12, Links: 3, Atime: -4, Mtime: 5, Ctime: 6, Next: 13, Xattr: 14, Root: extent.Empty()}
}

// wrongs are records that may not be.
func wrongs() []api.Inode {
	l := make([]api.Inode, 8)
	for i := range l {
		l[i] = empty()
	}
	l[0].Kind = api.KindFree
	l[1].Perm = 512
	l[2].Root = nil
	l[3].Root = l[3].Root[:47]
	l[4].Size = 65537
	l[5].Blocks = -1
	l[6].Parent = 1
	l[7] = api.Inode{}
	return l
}

// unclean are records whose root is none of a tree.
func unclean() []api.Inode {
	l := make([]api.Inode, 4)
	for i := range l {
		l[i] = empty()
	}
	l[0].Root[0] = 1 // an extent of no blocks
	l[1].Root[47] = 1
	l[2].Root[1] = 1
	l[3].Root = slices.Concat([]byte{1, 1, 0, 0}, make([]byte, 8), []byte{150}, make([]byte, 35)) // block 150 is no node
	return l
}

// of is a file's record with just these extents, whose nodes are laid from block 120 on, in s and, if there is one, in its twin.
func of(t *testing.T, size int, l []api.Extent, stores ...*store.Store) api.Inode {
	t.Helper()
	r := empty()
	r.Size, r.Blocks = size, rowOf(l).blocks()
	for _, s := range stores {
		root, more, e := extent.Write(s, extent.Empty(), l, 120)
		if e != api.OK {
			t.Fatalf("extent.Write(s, .., %v, 120): %d", l, e)
		}
		r.Root, r.Blocks = root, rowOf(l).blocks()+more
	}
	return r
}

// count is a row of n bytes, none of them nought, which are others from each seed.
func count(n, seed int) []byte {
	b := make([]byte, n)
	for i := range b {
		b[i] = byte(1 + (i*7+i/251+seed)%255)
	}
	return b
}

// seen is all that a refused call leaves as it was.
type seen struct {
	mark    int
	changed []int
	waiting []api.Write
	held    []bool
	blocks  [][]byte
}

func see(s *store.Store) seen {
	x := seen{mark: s.Mark(), changed: s.Changed(), waiting: s.Waiting()}
	for n := range s.Blocks() {
		b, _ := s.Read(n)
		x.held, x.blocks = append(x.held, s.Held(n)), append(x.blocks, b)
	}
	return x
}

// copied is a record that shares nothing with r.
func copied(r api.Inode) api.Inode {
	r.Root = bytes.Clone(r.Root)
	return r
}

// reads: does Read answer just this, and change nothing?
func reads(t *testing.T, s *store.Store, r api.Inode, off, n int, want []byte, f api.Errno) {
	t.Helper()
	mark, kept := s.Mark(), copied(r)
	if b, e := file.Read(s, r, off, n); !bytes.Equal(b, want) || e != f || e != api.OK && b != nil {
		t.Fatalf("Read(s, %v, %d, %d): %x %d, want %x %d", r, off, n, b, e, want, f)
	}
	if s.Mark() != mark || !reflect.DeepEqual(r, kept) {
		t.Fatalf("Read(s, %v, %d, %d) changed something", kept, off, n)
	}
}

// writes: does Write answer just this, and leave what it was given?
func writes(t *testing.T, s *store.Store, r api.Inode, off int, data []byte, goal int, want api.Inode, m int, f api.Errno) {
	t.Helper()
	kept, was := copied(r), bytes.Clone(data)
	if got, n, e := file.Write(s, r, off, data, goal); !reflect.DeepEqual(got, want) || n != m || e != f {
		t.Fatalf("Write(s, %v, %d, %d bytes, %d): %v %d %d, want %v %d %d", r, off, len(data), goal, got, n, e, want, m, f)
	}
	if !reflect.DeepEqual(r, kept) || !bytes.Equal(data, was) {
		t.Fatalf("Write(s, %v, %d, .., %d) changed what it was given: %v", kept, off, goal, r)
	}
}

// truncates: does Truncate answer just this, and leave what it was given?
func truncates(t *testing.T, s *store.Store, r api.Inode, size int, want api.Inode, f api.Errno) {
	t.Helper()
	kept := copied(r)
	if got, e := file.Truncate(s, r, size); !reflect.DeepEqual(got, want) || e != f {
		t.Fatalf("Truncate(s, %v, %d): %v %d, want %v %d", r, size, got, e, want, f)
	}
	if !reflect.DeepEqual(r, kept) {
		t.Fatalf("Truncate(s, %v, %d) changed what it was given: %v", kept, size, r)
	}
}

// rig is a store with a file, and a twin of that store, to which is done what the document says, step by step.
type rig struct {
	*testing.T
	s, twin *store.Store
	r       api.Inode
	bytes   []byte // the file's, by what was answered
}

func rigged(t *testing.T, g api.Geometry) *rig {
	t.Helper()
	return &rig{T: t, s: made(t, g), twin: made(t, g), r: empty()}
}

// both does something to both stores.
func (r *rig) both(do func(s *store.Store)) {
	do(r.s)
	do(r.twin)
}

// takes lets others have n blocks from at on.
func (r *rig) takes(at, n int) {
	r.Helper()
	r.both(func(s *store.Store) {
		if first, m, e := alloc.Blocks(s, at, n); first != at || m != n || e != api.OK {
			r.Fatalf("alloc.Blocks(s, %d, %d): %d %d %d", at, n, first, m, e)
		}
	})
}

// sparse lets others have every other block of the data; so what is taken of the rest comes one by one.
func (r *rig) sparse() {
	r.both(func(s *store.Store) {
		for at := 0; at < s.Blocks(); at += 2 {
			if first, _, _ := alloc.Blocks(s, at, 1); first != at {
				alloc.Free(s, first, 1) // at is fixed, or others' already
				s.Release()
			}
		}
		home(s)
	})
}

// leave lets others take all but room blocks.
func (r *rig) leave(room int) {
	r.both(func(s *store.Store) {
		for left, _, e := alloc.Left(s); e == api.OK && left > room; left, _, e = alloc.Left(s) {
			if _, _, e := alloc.Blocks(s, 108, left-room); e != api.OK {
				return // the rest is held
			}
		}
	})
}

// home commits all that was changed, brings it home, and lets nothing be held any more.
func home(s *store.Store) {
	s.Commit()
	for _, w := range s.Waiting() {
		s.Home(w.Block)
	}
	s.Release()
}

// write does it to both stores; they must come out the same.
func (r *rig) write(off int, data []byte, goal int) (int, api.Errno) {
	r.Helper()
	want, m, f := plainWrite(r.twin, r.r, off, data, goal)
	writes(r.T, r.s, r.r, off, data, goal, want, m, f)
	if f == api.OK {
		r.r = want
		if m > 0 {
			r.resize(max(len(r.bytes), off+m))
			copy(r.bytes[off:off+m], data)
		}
	}
	r.same()
	return m, f
}

// truncate does it to both stores; they must come out the same.
func (r *rig) truncate(size int) api.Errno {
	r.Helper()
	want, f := plainTruncate(r.twin, r.r, size)
	truncates(r.T, r.s, r.r, size, want, f)
	if f == api.OK {
		r.r = want
		r.resize(size)
	}
	r.same()
	return f
}

// resize lets the plain bytes be so many.
func (r *rig) resize(size int) {
	r.bytes = slices.Concat(r.bytes, make([]byte, max(0, size-len(r.bytes))))[:size]
}

// same: are both stores the same, and is the file its bytes?
func (r *rig) same() {
	r.Helper()
	if !reflect.DeepEqual(see(r.s), see(r.twin)) {
		r.Fatalf("the stores differ: Mark %d, want %d, Changed %v, want %v", r.s.Mark(), r.twin.Mark(), r.s.Changed(), r.twin.Changed())
	}
	reads(r.T, r.s, r.r, 0, math.MaxInt, r.bytes, api.OK)
}

// row is where the file's blocks lie, and how many nodes it has.
func (r *rig) row() (row, int) {
	r.Helper()
	l, nodes, e := extent.Read(r.s, r.r.Root)
	if e != api.OK {
		r.Fatalf("extent.Read: %d", e)
	}
	return rowOf(l), len(nodes)
}
