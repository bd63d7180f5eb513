package extent_test

import (
	"bytes"
	"reflect"
	"slices"
	"testing"

	"hayrick/alloc"
	"hayrick/api"
	"hayrick/disk"
	"hayrick/extent"
	"hayrick/store"
)

// Chapter 10's own geometry, and a wide one.
var (
	example = api.Geometry{Blocks: 300, PerGroup: 200, Inodes: 16, Journal: 96}
	wide    = api.Geometry{Blocks: 4096, PerGroup: 2016, Inodes: 122, Journal: 512}
)

// made is a store over a disk that was made.
func made(t *testing.T, g api.Geometry) *store.Store {
	t.Helper()
	d, e := disk.New(g.Blocks)
	if e != api.OK {
		t.Fatalf("disk.New(%d): %d", g.Blocks, e)
	}
	if e := alloc.Make(d, g); e != api.OK {
		t.Fatalf("Make(.., %v): %d", g, e)
	}
	s, e := store.New(d, 4, 16)
	if e != api.OK {
		t.Fatalf("store.New: %d", e)
	}
	return s
}

// seen is all that a refused call leaves as it was.
type seen struct {
	mark    int
	changed []int
	waiting []api.Write
	held    []bool
	blocks  [][]byte
}

func see(s *store.Store) seen {
	x := seen{mark: s.Mark(), changed: s.Changed(), waiting: s.Waiting()}
	for n := range s.Blocks() {
		b, _ := s.Read(n)
		x.held, x.blocks = append(x.held, s.Held(n)), append(x.blocks, b)
	}
	return x
}

// reads: does Read answer just this, and change nothing?
func reads(t *testing.T, s *store.Store, root []byte, want []api.Extent, blocks []int, f api.Errno) {
	t.Helper()
	mark, kept := s.Mark(), bytes.Clone(root)
	if l, nodes, e := extent.Read(s, root); !slices.Equal(l, want) || !slices.Equal(nodes, blocks) || e != f {
		t.Fatalf("Read(s, %x): %v %v %d, want %v %v %d", root, l, nodes, e, want, blocks, f)
	}
	if s.Mark() != mark || !bytes.Equal(root, kept) {
		t.Fatalf("Read(s, %x) changed something", kept)
	}
}

// unclean: is a root refused by Read and Write, and all left as it was?
func unclean(t *testing.T, s *store.Store, root []byte) {
	t.Helper()
	reads(t, s, root, nil, nil, api.EUCLEAN)
	was := see(s)
	for _, n := range []int{0, 4, 81} {
		writes(t, s, root, fixed(n, 0), 120, nil, 0, api.EUCLEAN)
	}
	if !reflect.DeepEqual(see(s), was) {
		t.Fatalf("Write(s, %x, ..), which was refused, changed something", root)
	}
}

// writes: does Write answer just this, and leave what it was given?
func writes(t *testing.T, s *store.Store, root []byte, l []api.Extent, goal int, want []byte, more int, f api.Errno) {
	t.Helper()
	kept, was := bytes.Clone(root), slices.Clone(l)
	if got, n, e := extent.Write(s, root, l, goal); !bytes.Equal(got, want) || n != more || e != f {
		t.Fatalf("Write(s, %x, %v, %d): %x %d %d, want %x %d %d", kept, l, goal, got, n, e, want, more, f)
	}
	if !bytes.Equal(root, kept) || !slices.Equal(l, was) {
		t.Fatalf("Write(s, %x, %v, %d) changed what it was given: %x %v", kept, was, goal, root, l)
	}
}

// rig is a store with a tree, and a twin of that store, to which is done what the document says, step by step.
type rig struct {
	*testing.T
	s, twin *store.Store
	root    []byte
	blocks  []int // of the tree's nodes
	list    []api.Extent
}

func rigged(t *testing.T, g api.Geometry) *rig {
	t.Helper()
	return &rig{T: t, s: made(t, g), twin: made(t, g), root: make([]byte, 48)}
}

// both does something to both stores.
func (r *rig) both(do func(s *store.Store)) {
	do(r.s)
	do(r.twin)
}

// home commits all that was changed, brings it home, and lets nothing be held any more.
func home(s *store.Store) {
	s.Commit()
	for _, w := range s.Waiting() {
		s.Home(w.Block)
	}
	s.Release()
}

// plainPlaces is where so many nodes stand, by what alloc gives and takes.
func plainPlaces(s *store.Store, old []int, n, goal int) ([]int, api.Errno) {
	blocks := slices.Clone(old)
	for len(blocks) > n {
		last := len(blocks) - 1
		if e := alloc.Free(s, blocks[last], 1); e != api.OK {
			return nil, e
		}
		blocks = blocks[:last]
	}
	for len(blocks) < n {
		where := goal
		if len(blocks) > 0 {
			where = blocks[len(blocks)-1] + 1
		}
		block, _, e := alloc.Blocks(s, where, 1)
		if e != api.OK {
			return nil, e
		}
		blocks = append(blocks, block)
	}
	return blocks, api.OK
}

// plainWrite is P13.4, of a list and a tree that may be.
func plainWrite(s *store.Store, old []int, l []api.Extent, goal int) ([]byte, []int, api.Errno) {
	mark := s.Mark()
	blocks, e := plainPlaces(s, old, plainNeed(len(l)), goal)
	if e != api.OK {
		s.Back(mark)
		return nil, nil, e
	}
	root, nodes := plainTree(l, blocks)
	for i, b := range nodes {
		if was, _ := s.Read(blocks[i]); i >= len(old) || !bytes.Equal(was, b) {
			s.Write(blocks[i], b)
		}
	}
	return root, blocks, api.OK
}

// write does it to both stores; they must come out the same.
func (r *rig) write(l []api.Extent, goal int) api.Errno {
	r.Helper()
	root, blocks, f := plainWrite(r.twin, r.blocks, l, goal)
	more := 0
	if f == api.OK {
		more = len(blocks) - len(r.blocks)
	}
	writes(r.T, r.s, r.root, l, goal, root, more, f)
	if f == api.OK {
		r.root, r.blocks, r.list = root, blocks, slices.Clone(l)
	}
	r.same()
	return f
}

// same: are both stores the same, and is the tree the list?
func (r *rig) same() {
	r.Helper()
	if !reflect.DeepEqual(see(r.s), see(r.twin)) {
		r.Fatalf("the stores differ: Mark %d, want %d, Changed %v, want %v", r.s.Mark(), r.twin.Mark(), r.s.Changed(), r.twin.Changed())
	}
	reads(r.T, r.s, r.root, r.list, r.blocks, api.OK)
}
