package file_test

import (
	"bytes"
	"math"
	"reflect"
	"slices"
	"testing"

	"hayrick/api"
	"hayrick/extent"
	"hayrick/file"
	"hayrick/store"
)

// P14.2: the chapter's own examples, with P14.1 and P14.3.
func TestExamples(t *testing.T) {
	r := rigged(t, example)
	data := count(10, 0)
	if m, e := r.write(300, data, 150); m != 10 || e != api.OK || r.r.Blocks != 1 || r.r.Size != 310 {
		t.Fatalf("10 bytes at 300: %d %d, %v", m, e, r.r)
	}
	reads(t, r.s, r.r, 0, 400, slices.Concat(make([]byte, 300), data), api.OK)
	r.truncate(305)
	r.truncate(320)
	reads(t, r.s, r.r, 300, 1000, slices.Concat(data[:5], make([]byte, 15)), api.OK)

	r = rigged(t, example)
	if m, e := r.write(65530, data, 150); m != 6 || e != api.OK || r.r.Size != 65536 {
		t.Errorf("10 bytes at 65530: %d %d", m, e)
	}
	if m, e := r.write(65536, data, 150); m != 0 || e != api.EFBIG {
		t.Errorf("10 bytes at 65536: %d %d", m, e)
	}
	if m, e := r.write(0, count(5000, 1), 150); m != 2048 || e != api.OK {
		t.Errorf("5000 bytes: %d %d", m, e)
	}
}

// P14.2: rows of bytes of all lengths, from all places of a block on, into holes and over what is there.
func TestWriteEdges(t *testing.T) {
	lengths := []int{0, 1, 2, 100, 255, 256, 257, 511, 512, 513, 1000, 1791, 1792, 1793, 2047, 2048, 2049, 5000}
	for _, off := range []int{0, 1, 255, 256, 257, 300, 1023, 1024, 1025, 30000, 63487, 63488, 63489, 65279, 65280, 65281, 65535} {
		r := rigged(t, example)
		for i, n := range lengths {
			r.both(home)
			if i%2 == 1 {
				r.truncate(0)
				r.both(home)
			}
			m, e := r.write(off, count(n, i), 150)
			if want := min(n, 2048, 65536-off); m != want || e != api.OK {
				t.Fatalf("%d bytes at %d: %d %d, want %d", n, off, m, e, want)
			}
		}
	}
}

// P14.2: blocks are taken right behind the one ahead in the file, or else from the goal on; as many at once as are holes there.
func TestGoals(t *testing.T) {
	far := slices.Concat([]int{0, 1, 107, 108, 130, 131, 160, 195, 199, 200, 209, 210, 260, 298, 299, 300}, below, beyond)
	for _, goal := range far {
		r := rigged(t, example)
		for _, at := range []int{112, 131, 134, 135, 140, 153, 198, 215} {
			r.takes(at, 1)
		}
		r.write(700, count(900, 1), goal)    // the blocks 2 to 6
		r.write(0, count(300, 2), goal)      // the blocks 0 and 1, the first of which has none ahead
		r.write(8*256, count(10, 3), goal)   // behind a hole
		r.write(1500, count(2048, 4), goal)  // block 7, and the blocks 9 on
		r.write(40000, count(256, 5), goal)  // in the block 156 and 157
		r.write(39000, count(2048, 6), goal) // around them
	}
}

// P14.2: of a goal all blocks come in one piece, if they are free; the file is one extent then.
func TestOneExtent(t *testing.T) {
	r := rigged(t, example)
	for i := range 10 {
		r.write(2048*i, count(2048, i), 112)
	}
	l, _, e := extent.Read(r.s, r.r.Root)
	if e != api.OK || !slices.Equal(l, []api.Extent{{Logical: 0, Length: 80, Physical: 112}}) || r.r.Blocks != 80 {
		t.Errorf("%v %d, Blocks %d", l, e, r.r.Blocks)
	}
}

// P14.2: bytes that are written over others take no block, and change just the blocks in which they lie.
func TestOver(t *testing.T) {
	r := rigged(t, example)
	r.write(0, count(2048, 0), 112)
	r.both(home)
	was := copied(r.r)
	r.write(500, count(600, 1), 150)
	if !slices.Equal(r.s.Changed(), []int{113, 114, 115, 116}) || r.s.Mark() != 4 || !reflect.DeepEqual(r.r, was) {
		t.Errorf("Changed %v, Mark %d, %v", r.s.Changed(), r.s.Mark(), r.r)
	}
	r.write(2000, count(50, 2), 150)
	if r.r.Size != 2050 || r.r.Blocks != 9 {
		t.Errorf("%v", r.r)
	}
	r.both(home)
	r.write(500, r.bytes[500:600], 150) // though these bytes stand there
	if r.s.Mark() != 2 {
		t.Errorf("Mark %d", r.s.Mark())
	}
}

// P14.2: a hole's new block holds noughts about the bytes, whatever lay in it.
func TestNoughts(t *testing.T) {
	r := rigged(t, example)
	r.write(0, count(2048, 0), 112)
	r.truncate(0)
	r.both(home)
	r.write(300, count(5, 1), 112)
	r.write(1023, count(2, 1), 112)
	r.truncate(2048)
	want := make([]byte, 2048)
	copy(want[300:], count(5, 1))
	copy(want[1023:], count(2, 1))
	reads(t, r.s, r.r, 0, 2048, want, api.OK)
}

// P14.2: blocks are taken, then the tree is laid, then the bytes are written, all in order; so what undoes it comes to the same things.
func TestWriteOrder(t *testing.T) {
	r := rigged(t, example)
	r.sparse()
	for i := range 6 {
		r.write(2000*i, count(2048, i), 111)
	}
	for mark := r.twin.Mark(); mark >= 0; mark-- {
		if r.s.Back(mark) != api.OK || r.twin.Back(mark) != api.OK || !reflect.DeepEqual(see(r.s), see(r.twin)) {
			t.Fatalf("at the mark %d the stores differ", mark)
		}
	}
}

// P14.2: where blocks lack, what lies ahead of the first one that lacks is written, and ENOSPC comes if that is nothing.
func TestNoRoom(t *testing.T) {
	for room := range 11 {
		for _, off := range []int{0, 100, 256, 511, 700} {
			for _, has := range [][2]int{{0, 0}, {0, 1}, {0, 513}, {256, 256}, {768, 1}, {600, 900}, {1300, 300}} {
				r := rigged(t, example)
				r.write(has[0], count(has[1], 1), 150)
				r.leave(room)
				places, _ := r.row()
				want, left := off, room
				for want < off+2048 && (places[want/256] != 0 || left > 0) {
					if places[want/256] == 0 {
						left--
					}
					want = want/256*256 + 256
				}
				want = min(want, off+2048) - off
				f := api.OK
				if want == 0 {
					f = api.ENOSPC
				}
				// Of more than two blocks there may be more than three extents, and none is left for a node.
				if m, e := r.write(off, count(2048, 2), 130); (m != want || e != f) && (room <= 2 || e == api.OK) {
					t.Fatalf("room for %d, %v are there: %d bytes at %d: %d, want %d %d", room, has, m, off, e, want, f)
				}
			}
		}
	}
}

// P14.2: ENOSPC, if there is none for a node; all is as it was, though there were blocks for the bytes.
func TestNoRoomForNode(t *testing.T) {
	for room := range 6 {
		r := rigged(t, example)
		r.sparse()
		r.write(0, count(3*256, 1), 111)
		if _, nodes := r.row(); nodes != 0 {
			t.Fatalf("three extents: %d nodes", nodes)
		}
		r.leave(room)
		// Of up to four blocks all are taken for the bytes, and none is left for the node.
		want, f := 0, api.ENOSPC
		if room == 5 {
			want, f = 4*256, api.OK
		}
		if m, e := r.write(3*256, count(4*256, 2), 113); m != want || e != f {
			t.Errorf("room for %d: %d %d, want %d %d", room, m, e, want, f)
		}
	}
}

// P14.2: blocks that are held are no room, till they are released.
func TestHeld(t *testing.T) {
	r := rigged(t, example)
	r.write(0, count(1024, 1), 150)
	r.leave(0)
	r.truncate(256)
	if m, e := r.write(256, count(512, 2), 150); m != 0 || e != api.ENOSPC {
		t.Fatalf("all that is free is held: %d %d", m, e)
	}
	if m, e := r.write(200, count(512, 2), 150); m != 56 || e != api.OK {
		t.Fatalf("all that is free is held: %d %d", m, e)
	}
	r.both((*store.Store).Release)
	if m, e := r.write(256, count(1024, 3), 150); m != 768 || e != api.OK {
		t.Fatalf("nothing is held any more: %d %d", m, e)
	}
}

// P14.2: EINVAL of a record that may not be, ahead of EUCLEAN of its root, ahead of EINVAL of an offset, ahead of nothing to write, ahead of EFBIG.
func TestWriteWrong(t *testing.T) {
	some := count(10, 0)
	for _, s := range []*store.Store{nil, {}, nobody(t), made(t, example)} {
		was := see(s)
		for _, off := range slices.Concat([]int{0, 65535, 65536}, below, beyond) {
			for _, r := range wrongs() {
				writes(t, s, r, off, some, 150, api.Inode{}, 0, api.EINVAL)
				writes(t, s, r, off, nil, 150, api.Inode{}, 0, api.EINVAL)
			}
			for _, r := range unclean() {
				writes(t, s, r, off, some, 150, api.Inode{}, 0, api.EUCLEAN)
				writes(t, s, r, off, nil, 150, api.Inode{}, 0, api.EUCLEAN)
			}
			if off < 0 {
				writes(t, s, empty(), off, some, 150, api.Inode{}, 0, api.EINVAL)
				writes(t, s, empty(), off, nil, 150, api.Inode{}, 0, api.EINVAL)
				continue
			}
			writes(t, s, empty(), off, nil, 150, empty(), 0, api.OK)
			writes(t, s, empty(), off, []byte{}, 150, empty(), 0, api.OK)
			if off > 65535 {
				writes(t, s, empty(), off, some, 150, api.Inode{}, 0, api.EFBIG)
			}
		}
		if !reflect.DeepEqual(see(s), was) {
			t.Error("what was refused changed something")
		}
	}
	r := empty()
	r.Size, r.Blocks = 77, 5
	writes(t, nil, r, 9, nil, 0, r, 0, api.OK)
}

// P14.2: alloc's errors are answered, where it is asked: EUCLEAN of a disk that is none, or whose bitmap is none; all is as it was.
func TestWriteAllocErrors(t *testing.T) {
	for _, s := range []*store.Store{nil, {}, nobody(t)} {
		writes(t, s, empty(), 0, count(10, 0), 150, api.Inode{}, 0, api.EUCLEAN)
	}
	for _, block := range []int{0, 1, 98, 200} {
		r := rigged(t, example)
		r.write(0, count(1000, 1), 150)
		r.both(func(s *store.Store) {
			b, _ := s.Read(block)
			b[40] ^= 1
			s.Write(block, b)
		})
		r.write(1000, count(24, 2), 150) // asks for no block
		_, e := r.write(900, count(512, 3), 150)
		_, f := r.write(900, count(512, 3), 220)
		want := api.EUCLEAN
		if block == 200 {
			want = api.OK // the other group is not asked where the one ahead of it has room
		}
		if e != want || f != want {
			t.Errorf("block %d is none: %d and %d, want %d", block, e, f, want)
		}
	}
	// Where the group that is whole has no room for all of it, what was taken of it is free again.
	r := rigged(t, example)
	r.both(func(s *store.Store) {
		b, _ := s.Read(200)
		b[40] ^= 1
		s.Write(200, b)
	})
	r.takes(108, 82)
	r.takes(193, 7)
	if _, e := r.write(0, count(800, 3), 190); e != api.EUCLEAN {
		t.Errorf("room for three of four blocks: %d", e)
	}
	if m, e := r.write(0, count(700, 3), 190); m != 700 || e != api.OK {
		t.Errorf("room for three of three blocks: %d %d", m, e)
	}
}

// P14.2: EUCLEAN, if the store refuses a block; what was taken ahead of it is free again.
func TestWriteOutside(t *testing.T) {
	for _, at := range []int{300, 4000, 4093} {
		for _, whole := range []bool{false, true} {
			r := rigged(t, example)
			l := []api.Extent{{Logical: 2, Length: 3, Physical: at}}
			r.r = of(t, 5*256, l, r.s, r.twin)
			was := see(r.s)
			off, n := 300, 300
			if whole {
				off, n = 256, 4*256
			}
			want := api.Inode{}
			writes(t, r.s, r.r, off, count(n, 1), 150, want, 0, api.EUCLEAN)
			writes(t, r.s, r.r, 1000, count(1000, 1), 150, want, 0, api.EUCLEAN)
			if !reflect.DeepEqual(see(r.s), was) {
				t.Fatal("what was refused changed something")
			}
			writes(t, r.s, r.r, 5*256, nil, 150, r.r, 0, api.OK)
			fresh, m, e := file.Write(r.s, r.r, 0, count(512, 1), 150)
			if m != 512 || e != api.OK || fresh.Blocks != 5 {
				t.Errorf("ahead of them: %v %d %d", fresh, m, e)
			}
		}
	}
}

// P14.2: where a list has a block twice, or one that is free, each is written in its turn, as the words say.
func TestWriteTwice(t *testing.T) {
	r := rigged(t, example)
	l := []api.Extent{{Logical: 0, Length: 2, Physical: 150}, {Logical: 2, Length: 2, Physical: 150}, {Logical: 5, Length: 2, Physical: 157}}
	r.r = of(t, 7*256, l, r.s, r.twin)
	for i, off := range []int{0, 100, 400, 600} {
		data := count(1500, i)
		want, m, f := plainWrite(r.twin, r.r, off, data, 154)
		writes(t, r.s, r.r, off, data, 154, want, m, f)
		if !reflect.DeepEqual(see(r.s), see(r.twin)) {
			t.Fatalf("from %d on the stores differ", off)
		}
	}
}

// P14.2: all of a record but Size, Blocks and Root stays, whatever kind it is of; Blocks is so many more as were taken.
func TestWriteRecord(t *testing.T) {
	for _, x := range []api.Inode{
		{Kind: api.KindDir, Perm: 511, Parent: 9, Indexed: true, Blocks: 4096, Size: 65536},
		{Kind: api.KindLink, Links: 65535, Size: 512, Atime: math.MinInt64, Ctime: math.MaxInt64},
		{Kind: api.KindFile, Uid: 65535, Gid: 65535, Next: 65535, Xattr: 65535, Blocks: 2},
	} {
		r := rigged(t, example)
		r.sparse()
		x.Root = extent.Empty()
		fresh, m, e := file.Write(r.s, x, 1000, count(1000, 1), 111)
		want := x
		want.Root, want.Size, want.Blocks = fresh.Root, max(x.Size, 2000), x.Blocks+6 // five and a node
		if m != 1000 || e != api.OK || !reflect.DeepEqual(fresh, want) {
			t.Errorf("%v %d %d, want %v", fresh, m, e, want)
		}
	}
}

// R3: the bytes are not kept, and each root that is answered is new memory, though nothing was changed.
func TestWriteShared(t *testing.T) {
	s := made(t, example)
	r, data := empty(), count(1000, 1)
	r, _, _ = file.Write(s, r, 0, data, 150)
	kept := copied(r)
	for i := range data {
		data[i] = 9
	}
	for _, do := range []func() (api.Inode, api.Errno){
		func() (api.Inode, api.Errno) { x, _, e := file.Write(s, r, 0, nil, 150); return x, e },
		func() (api.Inode, api.Errno) { x, _, e := file.Write(s, r, 0, r.Root, 150); return x, e },
		func() (api.Inode, api.Errno) { x, _, e := file.Write(s, r, 0, count(1000, 1), 150); return x, e },
		func() (api.Inode, api.Errno) { return file.Truncate(s, r, 5000) },
		func() (api.Inode, api.Errno) { return file.Truncate(s, r, 1000) },
		func() (api.Inode, api.Errno) { return file.Truncate(s, r, 999) },
	} {
		x, e := do()
		if e != api.OK {
			t.Fatal(e)
		}
		for i := range x.Root {
			x.Root[i] = 9
		}
		if !bytes.Equal(r.Root, kept.Root) {
			t.Fatal("what is answered shares the root that was handed in")
		}
	}
	reads(t, s, r, 0, 999, count(1000, 1)[:999], api.OK)
}

// R4: no write changes more than MaxCredits blocks, though the file is all in pieces.
func TestWriteFewBlocks(t *testing.T) {
	r := rigged(t, wide)
	r.sparse()
	most := 0
	for off := 100; off < 65536; off += 2048 {
		for i := range 2 {
			r.write(off, count(2048, i), 601)
			most = max(most, len(r.s.Changed()))
			r.both(home)
		}
	}
	if most < 12 || most > 9+14+4 {
		t.Errorf("%d blocks were changed at most", most)
	}
}
