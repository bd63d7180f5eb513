package extent_test

import (
	"bytes"
	"math"
	"math/rand"
	"reflect"
	"slices"
	"testing"

	"hayrick/alloc"
	"hayrick/api"
	"hayrick/disk"
	"hayrick/extent"
	"hayrick/store"
)

// P13.4: the chapter's own examples, of the words on trees.
func TestTreeExamples(t *testing.T) {
	r := rigged(t, example)
	r.write(fixed(4, 0), 120)
	if !slices.Equal(r.blocks, []int{120}) || r.root[0] != 1 || r.root[1] != 1 {
		t.Errorf("4 extents: %v %x", r.blocks, r.root)
	}
	r.write(fixed(61, 0), 150)
	if !slices.Equal(r.blocks, []int{120, 121, 122, 123, 124}) || r.root[0] != 1 || r.root[1] != 2 {
		t.Errorf("61 extents: %v %x", r.blocks, r.root)
	}
}

// P13.4, P13.5: from each size to each other one, and back to nothing.
func TestSizes(t *testing.T) {
	for _, from := range sizes {
		r := rigged(t, example)
		free, _, _ := alloc.Left(r.s)
		for i, to := range sizes {
			r.write(fixed(from, 0), 110)
			r.write(fixed(to, i%2), 240)
			if left, _, _ := alloc.Left(r.s); left != free-plainNeed(to) || len(r.blocks) != plainNeed(to) {
				t.Fatalf("%d extents: %d nodes, %d of %d blocks are free", to, len(r.blocks), left, free)
			}
			if i%3 == 0 {
				r.both(home)
			}
		}
		r.write(nil, 0)
		if left, _, _ := alloc.Left(r.s); left != free || !bytes.Equal(r.root, extent.Empty()) {
			t.Fatalf("no extents: %d of %d blocks are free, %x", left, free, r.root)
		}
	}
}

// P13.4: blocks are taken behind one another, from the goal on, around what is taken; whatever goal is.
func TestGoals(t *testing.T) {
	for _, goal := range append([]int{0, 1, 98, 107, 108, 150, 195, 199, 200, 209, 210, 260, 298, 299, 300}, far...) {
		r := rigged(t, example)
		r.both(func(s *store.Store) {
			for _, n := range []int{112, 153, 156, 198, 215} {
				alloc.Blocks(s, n, 1)
			}
		})
		r.write(fixed(50, 0), goal)
		r.write(fixed(255, 1), goal)
		r.write(fixed(21, 1), goal)
		r.write(fixed(70, 1), goal)
		r.write(nil, goal)
		r.write(fixed(62, 1), goal) // what was given back is held
	}
}

// P13.4: nodes are taken, and given back from the last one on, ahead of being written, in order; so what undoes it comes to the same things.
func TestOrder(t *testing.T) {
	for _, sizes := range [][2]int{{0, 200}, {200, 10}, {45, 130}, {256, 0}, {81, 62}, {62, 81}} {
		r := rigged(t, example)
		r.write(fixed(sizes[0], 0), 130)
		r.both(home)
		r.write(fixed(sizes[1], 1), 130)
		for mark := r.twin.Mark(); mark >= 0; mark-- {
			if r.s.Back(mark) != api.OK || r.twin.Back(mark) != api.OK || !reflect.DeepEqual(see(r.s), see(r.twin)) {
				t.Fatalf("from %d extents to %d: at the mark %d the stores differ", sizes[0], sizes[1], mark)
			}
		}
	}
}

// P13.4: a node that holds what it is to hold is not written, unless its block was taken for it now.
func TestOnlyOthers(t *testing.T) {
	r := rigged(t, example)
	l := fixed(90, 0)
	r.write(l, 130)
	r.both(home)
	r.write(l, 130)
	if r.s.Mark() != 0 {
		t.Fatalf("the same list again: Mark %d", r.s.Mark())
	}
	l[45].Physical = 1
	r.write(l, 130)
	if !slices.Equal(r.s.Changed(), []int{r.blocks[3]}) || r.s.Mark() != 1 {
		t.Fatalf("another extent of the third leaf: Changed %v of %v", r.s.Changed(), r.blocks)
	}
	r.both(home)
	r.write(l[:89], 130)
	if !slices.Equal(r.s.Changed(), []int{r.blocks[5]}) || r.s.Mark() != 1 {
		t.Fatalf("one extent less: Changed %v of %v", r.s.Changed(), r.blocks)
	}
	// Given back and taken again, all blocks hold what they are to hold, and are written nonetheless.
	for _, way := range []func(s *store.Store){home, func(s *store.Store) { s.Commit(); s.Release() }, (*store.Store).Release} {
		blocks := slices.Clone(r.blocks)
		r.write(nil, 130)
		r.both(way)
		r.both(func(s *store.Store) { s.Commit() })
		r.write(l[:89], 130)
		if !slices.Equal(r.blocks, blocks) {
			t.Fatalf("taken again: %v, were %v", r.blocks, blocks)
		}
		for _, n := range blocks {
			if !slices.Contains(r.s.Changed(), n) {
				t.Fatalf("block %d was taken again, but Changed: %v", n, r.s.Changed())
			}
		}
		r.both(home)
	}
}

// P13.4: EINVAL of a list that may not be, ahead of EUCLEAN of a root that is none; both change nothing.
func TestWriteWrong(t *testing.T) {
	r := rigged(t, example)
	r.write(fixed(70, 0), 130)
	was := see(r.s)
	for _, l := range wrongs() {
		writes(t, r.s, r.root, l, 130, nil, 0, api.EINVAL)
		writes(t, r.s, extent.Empty(), l, 130, nil, 0, api.EINVAL)
		writes(t, r.s, r.root[:47], l, 130, nil, 0, api.EINVAL)
		writes(t, r.s, rootBytes(1, 1, of(0, 0, 0)), l, 130, nil, 0, api.EINVAL)
	}
	if !reflect.DeepEqual(see(r.s), was) {
		t.Error("what was refused changed something")
	}
}

// P13.4: ENOSPC where blocks lack; all is as it was, and with blocks enough it goes.
func TestNoRoom(t *testing.T) {
	for _, from := range []int{0, 4, 41, 61} {
		for _, to := range []int{4, 21, 61, 81, 256} {
			for room := range 15 {
				r := rigged(t, example)
				r.write(fixed(from, 0), 130)
				r.both(func(s *store.Store) {
					for left, _, _ := alloc.Left(s); left > room; left, _, _ = alloc.Left(s) {
						alloc.Blocks(s, 108, min(left-room, 20))
					}
				})
				want := api.OK
				if plainNeed(to)-plainNeed(from) > room {
					want = api.ENOSPC
				}
				if e := r.write(fixed(to, 1), 130); e != want {
					t.Fatalf("from %d extents to %d, with room for %d nodes: %d, want %d", from, to, room, e, want)
				}
			}
		}
	}
}

// P13.4: blocks that are held are no room, till they are released.
func TestHeld(t *testing.T) {
	r := rigged(t, example)
	r.write(fixed(61, 0), 130)
	r.both(func(s *store.Store) {
		for left, _, _ := alloc.Left(s); left > 0; left, _, _ = alloc.Left(s) {
			alloc.Blocks(s, 108, left)
		}
	})
	r.write(nil, 130)
	if e := r.write(fixed(4, 0), 130); e != api.ENOSPC {
		t.Fatalf("all that is free is held: %d", e)
	}
	r.both((*store.Store).Release)
	if e := r.write(fixed(61, 0), 130); e != api.OK || len(r.blocks) != 5 {
		t.Fatalf("nothing is held any more: %d, %v", e, r.blocks)
	}
}

// P13.4: alloc's errors are answered: EUCLEAN of a disk that is none, EINVAL of nodes that are no data, EUCLEAN of ones that are not taken; all is as it was.
func TestAllocErrors(t *testing.T) {
	for block := range 2 {
		r := rigged(t, example)
		r.write(fixed(70, 0), 130)
		r.both(func(s *store.Store) {
			b, _ := s.Read(block)
			b[200] ^= 1
			s.Write(block, b)
		})
		for n, want := range map[int]api.Errno{0: api.EUCLEAN, 60: api.EUCLEAN, 61: api.OK, 80: api.OK, 81: api.EUCLEAN} {
			if e := r.write(fixed(n, 0), 130); e != want {
				t.Errorf("block %d is none: %d extents: %d, want %d", block, n, e, want)
			}
		}
	}
	r := rigged(t, example)
	nobody, blocks := fixed(70, 0), []int{150, 151, 5, 152, 153}
	r.root, r.blocks, r.list = laid(t, r.s, nobody, blocks), blocks, nobody
	laid(t, r.twin, nobody, blocks)
	if e := r.write(fixed(4, 0), 130); e != api.EUCLEAN {
		t.Errorf("nodes that are not taken: %d", e)
	}
	r.both(func(s *store.Store) { alloc.Blocks(s, 150, 4) })
	if e := r.write(fixed(20, 0), 130); e != api.EINVAL {
		t.Errorf("a node in the journal: %d", e)
	}
	if e := r.write(fixed(60, 0), 130); e != api.OK {
		t.Errorf("a node in the journal, which stays: %d", e)
	}
	if e := r.write(fixed(70, 1), 130); e != api.OK {
		t.Errorf("a node in the journal, and others: %d", e)
	}
}

// P13.4: where nodes are neither taken nor given back alloc is not asked, be there a disk or not.
func TestNoDisk(t *testing.T) {
	d, _ := disk.New(300)
	s, _ := store.New(d, 4, 16)
	writes(t, s, extent.Empty(), fixed(3, 0), 7, rootBytes(3, 0, fixed(3, 0)), 0, api.OK)
	writes(t, s, extent.Empty(), fixed(4, 0), 7, nil, 0, api.EUCLEAN)
	root := laid(t, s, fixed(45, 0), []int{9, 5, 7})
	mark := s.Mark()
	want, nodes := plainTree(fixed(47, 1), []int{9, 5, 7})
	writes(t, s, root, fixed(47, 1), 7, want, 0, api.OK)
	for i, n := range []int{9, 5, 7} {
		if b, e := s.Read(n); e != api.OK || !bytes.Equal(b, nodes[i]) {
			t.Errorf("block %d: %x %d, want %x", n, b, e, nodes[i])
		}
	}
	if s.Mark() != mark+3 {
		t.Errorf("Mark %d, behind %d", s.Mark(), mark)
	}
	writes(t, s, want, fixed(3, 0), 7, nil, 0, api.EUCLEAN)
}

// P13.5: trees of drawn lists, one over the other, with commits in between, read as they were written; blocks balance.
func TestDrawnWrites(t *testing.T) {
	for i, g := range []api.Geometry{example, wide} {
		r := rigged(t, g)
		draw := rand.New(rand.NewSource(int64(31 + i)))
		free, _, _ := alloc.Left(r.s)
		codes, taken := map[api.Errno]int{}, 0
		steps := 600
		if g.Blocks > 2000 {
			steps = 120
		}
		for range steps {
			var l []api.Extent
			switch draw.Intn(4) {
			case 0:
				l = fixed(sizes[draw.Intn(len(sizes))], draw.Intn(2))
			case 1:
				l, _, _ = extent.Cut(r.list, draw.Intn(100), 100+draw.Intn(160))
			default:
				l = drawnRow(draw).list()
			}
			goal := draw.Intn(g.Blocks)
			if draw.Intn(10) == 0 {
				goal = []int{-1, math.MinInt, math.MaxInt, g.Blocks}[draw.Intn(4)]
			}
			codes[r.write(l, goal)]++
			switch draw.Intn(12) {
			case 0:
				r.both(home)
			case 1:
				r.both(func(s *store.Store) { s.Commit() })
			case 2:
				r.both((*store.Store).Release)
			case 3: // others take what room there is, but for a few
				want := max(0, free-taken-len(r.blocks)-draw.Intn(12))
				r.both(func(s *store.Store) {
					_, n, _ := alloc.Blocks(s, 108, want)
					if s == r.s {
						taken += n
					}
				})
			}
			if left, _, e := alloc.Left(r.s); e != api.OK || left != free-taken-len(r.blocks) {
				t.Fatalf("%d blocks are free of %d, %d are others', %d are nodes: %d", left, free, taken, len(r.blocks), e)
			}
		}
		if codes[api.OK] < steps/10 || g == example && codes[api.ENOSPC] < 20 {
			t.Errorf("the draw asks too little: %v", codes)
		}
	}
}

// R4: no Write changes more than MaxCredits blocks: at most fourteen nodes, two bitmaps, and the first two.
func TestFewBlocks(t *testing.T) {
	r := rigged(t, example)
	for _, n := range []int{256, 0, 256, 4, 240} {
		r.write(fixed(n, n%2), 195)
		if changed := len(r.s.Changed()); changed > 18 {
			t.Errorf("%d extents: %d blocks were changed", n, changed)
		}
		r.both(home)
	}
}

// R3: what is answered is not kept.
func TestWriteShared(t *testing.T) {
	r := rigged(t, example)
	l := fixed(90, 0)
	root, _, e := extent.Write(r.s, r.root, l, 130)
	if e != api.OK {
		t.Fatal(e)
	}
	kept := bytes.Clone(root)
	for i := range root {
		root[i] = 9
	}
	for i := range l {
		l[i] = api.Extent{Logical: 9, Length: 9, Physical: 9}
	}
	if got, _, e := extent.Read(r.s, kept); e != api.OK || !slices.Equal(got, fixed(90, 0)) {
		t.Errorf("%v %d", got, e)
	}
	small := fixed(3, 0)
	a, _, _ := extent.Write(r.s, kept, small, 130)
	b, _, _ := extent.Write(r.s, a, small, 130)
	a[0] = 9
	if !bytes.Equal(b, rootBytes(3, 0, fixed(3, 0))) {
		t.Errorf("%x", b)
	}
}
