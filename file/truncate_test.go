package file_test

import (
	"reflect"
	"slices"
	"testing"

	"hayrick/alloc"
	"hayrick/api"
	"hayrick/extent"
	"hayrick/file"
	"hayrick/store"
)

// sizes are such as lie at the edges of blocks, of 2304 bytes and of the greatest file, and between.
var sizes = []int{0, 1, 100, 255, 256, 257, 511, 512, 513, 1000, 1279, 1280, 1281, 2047, 2048, 2049, 2303, 2304, 2305, 30000, 65535, 65536}

// P14.3: from each size to each other one and back; what is cut off doesn't come again, and its blocks are given back.
func TestTruncate(t *testing.T) {
	for _, to := range sizes {
		for _, through := range []int{-1, 0, 300, 512} {
			r := rigged(t, example)
			free, _, _ := alloc.Left(r.s)
			r.write(0, count(2048, 1), 112)
			r.write(2048, count(256, 2), 150)
			if through >= 0 {
				r.truncate(through)
				r.both(home)
			}
			was := slices.Clone(r.bytes)
			if e := r.truncate(to); e != api.OK || r.r.Size != to {
				t.Fatalf("to %d: %d, %v", to, e, r.r)
			}
			blocks := (min(to, len(was)) + 255) / 256
			if left, _, _ := alloc.Left(r.s); left != free-blocks || r.r.Blocks != blocks {
				t.Fatalf("to %d: Blocks %d, %d of %d are free", to, r.r.Blocks, left, free)
			}
			r.truncate(65536)
			reads(t, r.s, r.r, 0, 65536, slices.Concat(was[:min(to, len(was))], make([]byte, 65536-min(to, len(was)))), api.OK)
			r.truncate(0)
			if left, _, _ := alloc.Left(r.s); left != free || r.r.Blocks != 0 || !slices.Equal(r.r.Root, extent.Empty()) {
				t.Fatalf("to nothing: %v, %d of %d are free", r.r, left, free)
			}
		}
	}
}

// P14.3: longer, or as long as it is, Size alone changes; shorter within a block just that block, and only if there is anything but noughts.
func TestTruncateChanges(t *testing.T) {
	r := rigged(t, example)
	r.write(0, count(600, 1), 112)
	r.write(1536, count(10, 1), 117)
	r.both(home)
	for _, x := range []struct {
		size    int
		changed []int
	}{
		{2000, nil}, {2000, nil}, {1600, nil}, {1546, nil}, {1545, []int{117}}, {1545, nil}, {1537, []int{117}}, {1800, nil}, {1537, nil},
		{1536, []int{0, 1, 98}},
		{1000, nil}, {768, nil}, // in holes
		{601, nil}, {600, nil},
		{599, []int{114}},
		{512, []int{0, 1, 98}},
		{65536, nil}, {512, nil},
		{511, []int{113}}, {257, []int{113}},
		{1, []int{0, 1, 98, 112}}, {0, []int{0, 1, 98}}, {0, nil}, {7, nil}, {0, nil},
	} {
		r.truncate(x.size)
		if !slices.Equal(r.s.Changed(), x.changed) {
			t.Errorf("to %d: Changed %v, want %v", x.size, r.s.Changed(), x.changed)
		}
		r.both(home)
	}
}

// P14.3: what is given back is held.
func TestTruncateHolds(t *testing.T) {
	r := rigged(t, example)
	r.sparse()
	r.write(0, count(2048, 1), 111)
	places, _ := r.row()
	_, nodes, _ := extent.Read(r.s, r.r.Root)
	r.truncate(700)
	for k, at := range places[:8] {
		if r.s.Held(at) != (k > 2) {
			t.Errorf("block %d, at %d: Held %v", k, at, r.s.Held(at))
		}
	}
	if len(nodes) != 1 || !r.s.Held(nodes[0]) || r.r.Blocks != 3 {
		t.Errorf("nodes %v, %v", nodes, r.r)
	}
}

// P14.3: the extents are given back in order, then the tree is laid, then noughts are; so what undoes it comes to the same things.
func TestTruncateOrder(t *testing.T) {
	for _, size := range []int{0, 1, 700, 4096, 11000} {
		r := rigged(t, example)
		r.sparse()
		for i := range 6 {
			r.write(2000*i, count(2048, i), 111)
		}
		r.both(home)
		r.truncate(size)
		for mark := r.twin.Mark(); mark >= 0; mark-- {
			if r.s.Back(mark) != api.OK || r.twin.Back(mark) != api.OK || !reflect.DeepEqual(see(r.s), see(r.twin)) {
				t.Fatalf("to %d: at the mark %d the stores differ", size, mark)
			}
		}
	}
}

// P14.3: EINVAL of a record that may not be, ahead of EUCLEAN of its root, ahead of EINVAL and EFBIG of sizes.
func TestTruncateWrong(t *testing.T) {
	for _, s := range []*store.Store{nil, {}, nobody(t), made(t, example)} {
		was := see(s)
		for _, size := range slices.Concat([]int{0, 100, 65536, 65537, 65792}, below, beyond) {
			for _, r := range wrongs() {
				truncates(t, s, r, size, api.Inode{}, api.EINVAL)
			}
			for _, r := range unclean() {
				truncates(t, s, r, size, api.Inode{}, api.EUCLEAN)
			}
			for _, from := range []int{0, 300, 65536} {
				r, want, f := empty(), api.Inode{}, api.OK
				r.Size = from
				switch {
				case size < 0:
					f = api.EINVAL
				case size > 65536:
					f = api.EFBIG
				default:
					want = r // holes are cut off whatever the store is
					want.Size = size
				}
				truncates(t, s, r, size, want, f)
			}
		}
		if !reflect.DeepEqual(see(s), was) {
			t.Error("what was refused changed something")
		}
	}
}

// P14.3: alloc's errors are answered: EINVAL of blocks that are no data, EUCLEAN of ones that are not taken, or of a disk that is none; all is as it was, what was given back ahead of it too.
func TestTruncateAllocErrors(t *testing.T) {
	for _, x := range []struct {
		last api.Extent
		want api.Errno
	}{
		{api.Extent{Logical: 5, Length: 1, Physical: 20}, api.EINVAL},   // the journal
		{api.Extent{Logical: 5, Length: 2, Physical: 199}, api.EINVAL},  // of two groups
		{api.Extent{Logical: 5, Length: 1, Physical: 300}, api.EINVAL},  // no block
		{api.Extent{Logical: 5, Length: 2, Physical: 170}, api.EUCLEAN}, // the second one is not taken
		{api.Extent{Logical: 5, Length: 2, Physical: 150}, api.EUCLEAN}, // they are given back already
		{api.Extent{Logical: 5, Length: 1, Physical: 170}, api.OK},
	} {
		r := rigged(t, example)
		r.takes(150, 4)
		r.takes(170, 1)
		r.r = of(t, 8*256, []api.Extent{{Logical: 0, Length: 4, Physical: 150}, x.last}, r.s, r.twin)
		for _, size := range []int{5 * 256, 300, 0} {
			want, f := plainTruncate(r.twin, r.r, size)
			if x.want != api.OK && f != x.want && size == 0 {
				t.Errorf("%v: %d, want %d", x.last, f, x.want)
			}
			truncates(t, r.s, r.r, size, want, f)
			if !reflect.DeepEqual(see(r.s), see(r.twin)) {
				t.Fatalf("%v: to %d the stores differ", x.last, size)
			}
			if f == api.OK {
				break
			}
		}
	}
	for _, block := range []int{0, 1, 98} {
		r := rigged(t, example)
		r.write(0, count(1000, 1), 150)
		r.both(func(s *store.Store) {
			b, _ := s.Read(block)
			b[40] ^= 1
			s.Write(block, b)
		})
		for size, want := range map[int]api.Errno{769: api.OK, 512: api.EUCLEAN, 0: api.EUCLEAN, 5000: api.OK} {
			if e := r.truncate(size); e != want {
				t.Errorf("block %d is none: to %d: %d, want %d", block, size, e, want)
			}
		}
	}
}

// P14.3: EUCLEAN, if the store refuses the block within which the size lies; all is as it was.
func TestTruncateOutside(t *testing.T) {
	r := rigged(t, example)
	r.takes(150, 2)
	l := []api.Extent{{Logical: 0, Length: 2, Physical: 4000}, {Logical: 3, Length: 2, Physical: 150}}
	r.r = of(t, 5*256, l, r.s, r.twin)
	was := see(r.s)
	truncates(t, r.s, r.r, 1, api.Inode{}, api.EINVAL) // the block 1 can't be given back
	truncates(t, r.s, r.r, 257, api.Inode{}, api.EUCLEAN)
	truncates(t, r.s, r.r, 511, api.Inode{}, api.EUCLEAN)
	if !reflect.DeepEqual(see(r.s), was) {
		t.Fatal("what was refused changed something")
	}
	if fresh, e := file.Truncate(r.s, r.r, 512); e != api.OK || fresh.Blocks != 2 || fresh.Size != 512 {
		t.Errorf("%v %d", fresh, e)
	}
}

// P14.3: all of a record but Size, Blocks and Root stays; Blocks is so many less as were given back, blocks that lie behind Size among them.
func TestTruncateRecord(t *testing.T) {
	for _, x := range []api.Inode{
		{Kind: api.KindDir, Perm: 511, Parent: 9, Indexed: true, Blocks: 4096, Size: 600},
		{Kind: api.KindLink, Links: 65535, Size: 512, Blocks: 5},
		{Kind: api.KindFile, Uid: 65535, Gid: 65535, Next: 65535, Xattr: 65535, Size: 300, Blocks: 1},
	} {
		s := made(t, example)
		alloc.Blocks(s, 150, 4)
		root := of(t, 0, []api.Extent{{Logical: 0, Length: 4, Physical: 150}}, s).Root
		x.Root = root
		want := x
		want.Size = 65536
		truncates(t, s, x, 65536, want, api.OK)
		want.Size = x.Size
		truncates(t, s, x, x.Size, want, api.OK)
		want.Size, want.Blocks, want.Root = 256, x.Blocks-3, of(t, 0, []api.Extent{{Logical: 0, Length: 1, Physical: 150}}, s).Root
		truncates(t, s, x, 256, want, api.OK)
	}
}

// R4: no Truncate changes more than MaxCredits blocks, though the file is all in pieces.
func TestTruncateFewBlocks(t *testing.T) {
	r := rigged(t, wide)
	r.sparse()
	for off := 0; off < 65536; off += 2048 {
		r.write(off, count(2048, off), 601)
		r.both(home)
	}
	most := 0
	for _, size := range []int{60000, 40001, 3} {
		r.truncate(size)
		most = max(most, len(r.s.Changed()))
		r.both(home)
	}
	if most < 3 || most > 14+14+2+1 {
		t.Errorf("%d blocks were changed at most", most)
	}
}
