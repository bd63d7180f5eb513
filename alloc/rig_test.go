package alloc_test

import (
	"bytes"
	"reflect"
	"slices"
	"testing"

	"hayrick/alloc"
	"hayrick/api"
	"hayrick/disk"
	"hayrick/store"
)

// filled is a block of one byte, over and over.
func filled(x byte) []byte { return bytes.Repeat([]byte{x}, api.BlockSize) }

// rig is a store over a disk that was made, with what the document says of it.
type rig struct {
	*testing.T
	d *disk.Disk
	s *store.Store
	p *plain
}

func rigged(t *testing.T, g api.Geometry) *rig {
	t.Helper()
	d, e := disk.New(g.Blocks)
	if e != api.OK {
		t.Fatalf("disk.New(%d): %d", g.Blocks, e)
	}
	if e := alloc.Make(d, g); e != api.OK {
		t.Fatalf("Make(.., %v): %d", g, e)
	}
	return on(t, d, g)
}

// on is a rig over a disk that was made just now.
func on(t *testing.T, d *disk.Disk, g api.Geometry) *rig {
	t.Helper()
	s, e := store.New(d, 4, 16)
	if e != api.OK {
		t.Fatalf("store.New: %d", e)
	}
	return &rig{t, d, s, newPlain(g)}
}

// read is a block that must be there.
func (r *rig) read(n int) []byte {
	r.Helper()
	b, e := r.s.Read(n)
	if e != api.OK {
		r.Fatalf("Read(%d): %d", n, e)
	}
	return b
}

// put lets a block hold something, whoever it belongs to.
func (r *rig) put(n int, b []byte) {
	r.Helper()
	if e := r.s.Write(n, b); e != api.OK {
		r.Fatalf("Write(%d, ..): %d", n, e)
	}
}

// hold lets blocks be held.
func (r *rig) hold(first, n int) {
	r.Helper()
	for i := range n {
		if e := r.s.Hold(first + i); e != api.OK {
			r.Fatalf("Hold(%d): %d", first+i, e)
		}
		r.p.held[first+i] = true
	}
}

// release lets nothing be held any more.
func (r *rig) release() {
	r.s.Release()
	clear(r.p.held)
}

// home commits all that was changed, and brings it home.
func (r *rig) home() {
	r.Helper()
	r.s.Commit()
	for _, w := range r.s.Waiting() {
		if e := r.s.Home(w.Block); e != api.OK {
			r.Fatalf("Home(%d): %d", w.Block, e)
		}
	}
}

// same: do all blocks but the journal's and the data say what the plain one says, and are just its blocks held?
func (r *rig) same() {
	r.Helper()
	for n, want := range r.p.laid() {
		if got := r.read(n); !bytes.Equal(got, want) {
			r.Fatalf("block %d: %x, want %x", n, got, want)
		}
	}
	for n := range r.p.g.Blocks {
		if r.s.Held(n) != r.p.held[n] {
			r.Fatalf("Held(%d): %t", n, r.s.Held(n))
		}
	}
	x := r.p.super()
	if blocks, inodes, e := alloc.Left(r.s); blocks != x.FreeBlocks || inodes != x.FreeInodes || e != api.OK {
		r.Fatalf("Left: %d %d %d, want %d %d", blocks, inodes, e, x.FreeBlocks, x.FreeInodes)
	}
}

// seen is all that a refused call leaves as it was.
type seen struct {
	mark    int
	changed []int
	waiting []api.Write
	held    []bool
	blocks  [][]byte
}

func see(s *store.Store) seen {
	x := seen{mark: s.Mark(), changed: s.Changed(), waiting: s.Waiting()}
	for n := range s.Blocks() {
		b, _ := s.Read(n)
		x.held, x.blocks = append(x.held, s.Held(n)), append(x.blocks, b)
	}
	return x
}

// answer is what a call answers, all of it.
type answer struct {
	a, b  int
	super api.Super
	e     api.Errno
}

// call is one, with what it was given.
type call struct {
	name string
	does func(s *store.Store) answer
}

func blocksCall(goal, want int) call {
	return call{"Blocks", func(s *store.Store) answer {
		first, n, e := alloc.Blocks(s, goal, want)
		return answer{a: first, b: n, e: e}
	}}
}

func freeCall(first, n int) call {
	return call{"Free", func(s *store.Store) answer { return answer{e: alloc.Free(s, first, n)} }}
}

func inodeCall(near int, dir bool) call {
	return call{"Inode", func(s *store.Store) answer {
		ino, e := alloc.Inode(s, near, dir)
		return answer{a: ino, e: e}
	}}
}

func freeInodeCall(ino int, dir bool) call {
	return call{"FreeInode", func(s *store.Store) answer { return answer{e: alloc.FreeInode(s, ino, dir)} }}
}

func setSuperCall(x api.Super) call {
	return call{"SetSuper", func(s *store.Store) answer { return answer{e: alloc.SetSuper(s, x)} }}
}

func placeCall(ino int) call {
	return call{"Place", func(s *store.Store) answer {
		block, at, e := alloc.Place(s, ino)
		return answer{a: block, b: at, e: e}
	}}
}

func superCall() call {
	return call{"Super", func(s *store.Store) answer {
		x, e := alloc.Super(s)
		return answer{super: x, e: e}
	}}
}

func leftCall() call {
	return call{"Left", func(s *store.Store) answer {
		blocks, inodes, e := alloc.Left(s)
		return answer{a: blocks, b: inodes, e: e}
	}}
}

// refused: does a call answer just this error, and leave all as it was?
func (r *rig) refused(c call, want api.Errno) {
	r.Helper()
	was := see(r.s)
	if got := c.does(r.s); got != (answer{e: want}) {
		r.Fatalf("%s: %v, want %d", c.name, got, want)
	}
	if !reflect.DeepEqual(see(r.s), was) {
		r.Fatalf("%s, which was refused, changed something", c.name)
	}
}

// does a call what is wanted of it? If it is refused, it must leave all as it was.
func (r *rig) does(c call, want answer) {
	r.Helper()
	if want.e != api.OK {
		r.refused(c, want.e)
	} else if got := c.does(r.s); got != want {
		r.Fatalf("%s: %v, want %v", c.name, got, want)
	}
}

// The calls below do to the store what they do to the plain one.

func (r *rig) blocks(goal, want int) (int, int) {
	r.Helper()
	first, n, e := r.p.take(goal, want)
	r.does(blocksCall(goal, want), answer{a: first, b: n, e: e})
	return first, n
}

func (r *rig) free(first, n int) {
	r.Helper()
	r.does(freeCall(first, n), answer{e: r.p.give(first, n)})
}

func (r *rig) inode(near int, dir bool) int {
	r.Helper()
	ino, e := r.p.takeInode(near, dir)
	r.does(inodeCall(near, dir), answer{a: ino, e: e})
	return ino
}

func (r *rig) freeInode(ino int, dir bool) {
	r.Helper()
	r.does(freeInodeCall(ino, dir), answer{e: r.p.giveInode(ino, dir)})
}

// gets: does Blocks answer this?
func (r *rig) gets(goal, want, first, n int) {
	r.Helper()
	if a, b := r.blocks(goal, want); a != first || b != n {
		r.Fatalf("Blocks(s, %d, %d): %d %d, want %d %d", goal, want, a, b, first, n)
	}
}

// getsInode: does Inode answer this?
func (r *rig) getsInode(near int, dir bool, ino int) {
	r.Helper()
	if got := r.inode(near, dir); got != ino {
		r.Fatalf("Inode(s, %d, %t): %d, want %d", near, dir, got, ino)
	}
}

// takeAll lets nothing of a group be free but some blocks.
func (r *rig) takeAll(group int, but ...int) {
	r.Helper()
	x := r.p.groups[group]
	for n := x.data; n < x.end; n++ {
		r.p.blocks[n] = !slices.Contains(but, n)
	}
	r.lay()
}

// lay lets all blocks say what the plain one says.
func (r *rig) lay() {
	r.Helper()
	for n, b := range r.p.laid() {
		r.put(n, b)
	}
}

// says lets the first two blocks say something else.
func (r *rig) says(change func(x *api.Super, l []api.Group)) {
	r.Helper()
	x, l := r.p.super(), r.p.counts()
	change(&x, l)
	r.put(0, superBlock(x))
	r.put(1, groupsBlock(l))
}
