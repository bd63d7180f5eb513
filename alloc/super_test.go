package alloc_test

import (
	"bytes"
	"math"
	"slices"
	"testing"

	"hayrick/alloc"
	"hayrick/api"
	"hayrick/disk"
	"hayrick/layout"
	"hayrick/store"
)

// P10.2: Super and Left tell what block 0 says, be it what it may.
func TestSuper(t *testing.T) {
	for _, g := range all() {
		r := rigged(t, g)
		fresh := r.p.super()
		for _, x := range []api.Super{
			fresh,
			{Geometry: g},
			{Geometry: g, FreeBlocks: 1, FreeInodes: 2, Orphan: 3, Mounts: 4, Clean: true},
			{Geometry: g, FreeBlocks: fresh.FreeBlocks, Orphan: fresh.FreeInodes, Mounts: math.MaxInt32},
		} {
			r.put(0, superBlock(x))
			r.does(superCall(), answer{super: x})
			r.does(leftCall(), answer{a: x.FreeBlocks, b: x.FreeInodes})
		}
	}
}

// P10.2, P10.6: behind SetSuper block 0 says so, and nothing else is written.
func TestSetSuper(t *testing.T) {
	for _, g := range all() {
		r := rigged(t, g)
		r.blocks(0, 1)
		r.s.Commit()
		x := r.p.super()
		for _, change := range []func(){
			func() {},
			func() { x.Clean = true },
			func() { x.Mounts = math.MaxInt32 },
			func() { x.Orphan = x.FreeInodes },
			func() { x.FreeBlocks++ },
			func() { x.FreeBlocks, x.FreeInodes, x.Orphan, x.Mounts, x.Clean = 0, 0, 0, 0, false },
			func() { x.FreeInodes = 1 },
		} {
			change()
			mark := r.s.Mark()
			r.does(setSuperCall(x), answer{})
			r.does(superCall(), answer{super: x})
			if b := r.read(0); !bytes.Equal(b, superBlock(x)) {
				t.Fatalf("block 0: %x", b)
			}
			if l := r.s.Changed(); r.s.Mark() != mark+1 || !slices.Equal(l, []int{0}) {
				t.Fatalf("Mark %d, behind %d; Changed: %v", r.s.Mark(), mark, l)
			}
		}
	}
}

// P10.2: EINVAL of what may not be, and of another geometry.
func TestSetSuperWrong(t *testing.T) {
	for _, g := range all() {
		r := rigged(t, g)
		good := r.p.super()
		far := []int{math.MinInt, math.MinInt32, -1, 1 << 31, 1 << 32, math.MaxInt}
		wrong := func(change func(x *api.Super, n int), numbers ...int) {
			t.Helper()
			for _, n := range append(numbers, far...) {
				x := good
				change(&x, n)
				r.refused(setSuperCall(x), api.EINVAL)
			}
		}
		wrong(func(x *api.Super, n int) { x.FreeBlocks = n }, good.FreeBlocks+1)
		wrong(func(x *api.Super, n int) { x.FreeInodes = n }, good.FreeInodes+1)
		wrong(func(x *api.Super, n int) { x.Orphan = n }, good.FreeInodes+1)
		wrong(func(x *api.Super, n int) { x.Mounts = n })
		wrong(func(x *api.Super, n int) { x.Geometry.Blocks = n }, 0, g.Blocks-1, g.Blocks+1)
		wrong(func(x *api.Super, n int) { x.Geometry.PerGroup = n }, 0, g.PerGroup+1)
		wrong(func(x *api.Super, n int) { x.Geometry.Inodes = n }, 0, g.Inodes-2, g.Inodes+2)
		wrong(func(x *api.Super, n int) { x.Geometry.Journal = n }, 0, g.Journal+1)
		// Others that may be, by themselves.
		for _, other := range all() {
			if other != g {
				r.refused(setSuperCall(api.Super{Geometry: other}), api.EINVAL)
			}
		}
		r.refused(setSuperCall(api.Super{}), api.EINVAL)
		r.same()
	}
	r := rigged(t, example)
	for _, other := range []api.Geometry{
		{Blocks: 300, PerGroup: 150, Inodes: 16, Journal: 96},
		{Blocks: 300, PerGroup: 200, Inodes: 14, Journal: 96},
		{Blocks: 300, PerGroup: 200, Inodes: 16, Journal: 97},
	} {
		if layout.Check(other) != api.OK {
			t.Fatalf("the draft: %v", other)
		}
		r.refused(setSuperCall(api.Super{Geometry: other}), api.EINVAL)
	}
}

// P10.2: each inode's place; EINVAL, if there is no such inode.
func TestPlace(t *testing.T) {
	for _, g := range all() {
		r := rigged(t, g)
		ino := 0
		for _, x := range r.p.groups {
			for i := range g.Inodes {
				ino++
				r.does(placeCall(ino), answer{a: x.table + i/2, b: i % 2 * 128})
			}
		}
		for _, n := range []int{math.MinInt, -1, 0, ino + 1, ino + 2, 1 << 32, 1<<32 + 1, math.MaxInt} {
			r.refused(placeCall(n), api.EINVAL)
		}
		r.same()
	}
}

// calls are some of each kind: such as would be done, and such as would be refused.
func calls() []call {
	l := []call{superCall(), leftCall(), setSuperCall(api.Super{Geometry: example, Mounts: 5}), setSuperCall(api.Super{})}
	for _, n := range []int{math.MinInt, -1, 0, 1, 2, 108, 150, 250, math.MaxInt} {
		l = append(l, placeCall(n), blocksCall(n, 1), blocksCall(0, n), freeCall(n, 1), freeCall(150, n))
		l = append(l, inodeCall(n, false), inodeCall(n, true), freeInodeCall(n, false), freeInodeCall(n, true))
	}
	return l
}

// P10.2 to P10.5: whatever else a call is given, it answers EUCLEAN where the first two blocks are not what they must be, and leaves all as it was.
func TestNotBegun(t *testing.T) {
	turned := func(b []byte, bit int) []byte {
		b = bytes.Clone(b)
		b[bit/8] ^= 1 << (bit % 8)
		return b
	}
	one := newPlain(example)
	super, groups := superBlock(one.super()), groupsBlock(one.counts())
	resized := func(blocks int) []byte {
		x := api.Super{Geometry: example}
		x.Geometry.Blocks = blocks
		return superBlock(x)
	}
	three := append(one.counts(), api.Group{Dirs: 1})
	for _, x := range []struct {
		what  string
		block int
		holds []byte
	}{
		{"block 0 of noughts", 0, filled(0)},
		{"block 0 with a turned bit", 0, turned(super, 8*26)},
		{"block 0 with a turned seal", 0, turned(super, 2047)},
		{"block 0 with another seed", 0, sealed(super[:252], 1)},
		{"block 0 of a block fewer", 0, resized(299)},
		{"block 0 of a block more", 0, resized(301)},
		{"block 0 of many blocks more", 0, resized(390)},
		{"block 0 that is block 1", 0, groups},
		{"block 0 of one group", 0, superBlock(api.Super{Geometry: api.Geometry{Blocks: 300, PerGroup: 300, Inodes: 16, Journal: 96}})},
		{"block 1 of noughts", 1, filled(0)},
		{"block 1 with a turned bit", 1, turned(groups, 8*4)},
		{"block 1 with a turned seal", 1, turned(groups, 2047)},
		{"block 1 with another seed", 1, sealed(groups[:252], 0)},
		{"block 1 of three groups", 1, groupsBlock(three)},
		{"block 1 with a count of 65536", 1, groupsBlock([]api.Group{{FreeBlocks: 65536}, {}})},
		{"block 1 that is block 0", 1, super},
	} {
		r := rigged(t, example)
		r.blocks(150, 1)
		r.inode(0, true)
		r.put(x.block, x.holds)
		for _, c := range calls() {
			if got := c.does(r.s); got != (answer{e: api.EUCLEAN}) {
				t.Errorf("%s: %s: %v", x.what, c.name, got)
			}
			r.refused(c, api.EUCLEAN)
		}
	}
}

// R1: stores that are nil or that no New has made have no super block; nor has a disk that nobody made.
func TestNoStore(t *testing.T) {
	d, _ := disk.New(300)
	blank, _ := store.New(d, 4, 16)
	for _, s := range []*store.Store{nil, {}, blank} {
		for _, c := range calls() {
			if got := c.does(s); got != (answer{e: api.EUCLEAN}) {
				t.Errorf("%s: %v", c.name, got)
			}
		}
		if s.Mark() != 0 || len(s.Changed()) != 0 {
			t.Errorf("Mark: %d, Changed: %v", s.Mark(), s.Changed())
		}
	}
	if d.Ops() != 0 {
		t.Errorf("steps of the disk: %d", d.Ops())
	}
}

// P10.3, P10.5: all calls over a store go on from its Mark: nothing that stood ahead of it is undone with what is refused.
func TestAheadOfMark(t *testing.T) {
	r := rigged(t, example)
	r.put(250, filled(9))
	r.hold(251, 1)
	r.blocks(260, 3)
	mark := r.s.Mark()
	r.says(func(x *api.Super, l []api.Group) { l[1].FreeBlocks, l[1].FreeInodes = 0, 0 })
	r.refused(blocksCall(270, 3), api.EUCLEAN)
	r.refused(inodeCall(17, false), api.EUCLEAN)
	if e := r.s.Back(mark); e != api.OK {
		t.Fatalf("Back(%d): %d", mark, e)
	}
	r.same()
	if b := r.read(250); !bytes.Equal(b, filled(9)) {
		t.Errorf("block 250: %x", b)
	}
	if _, _, e := alloc.Blocks(r.s, 270, 3); e != api.OK {
		t.Errorf("Blocks: %d", e)
	}
}
