package inode_test

import (
	"bytes"
	"math/rand"
	"reflect"
	"testing"

	"hayrick/alloc"
	"hayrick/api"
	"hayrick/disk"
	"hayrick/inode"
	"hayrick/store"
)

// P12.2: the chapter's own examples.
func TestExamples(t *testing.T) {
	r := rigged(t, example)
	r.gets(1, api.Inode{}, api.ENOENT)
	x := api.Inode{Kind: api.KindDir, Perm: 493, Links: 2, Parent: 1, Root: make([]byte, 48)}
	r.put(1, x)
	r.gets(1, x, api.OK)
	x.Perm = 512
	if e := inode.Put(r.s, 1, x); e != api.EINVAL {
		t.Errorf("Put with Perm 512: %d", e)
	}
	r.gets(33, api.Inode{}, api.EINVAL)
	r.same()
}

// P12.2, P12.3: each inode of a disk is free, and then what was put; those of its block, and all else, stay.
func TestEach(t *testing.T) {
	for _, g := range all() {
		r := rigged(t, g)
		draw := rand.New(rand.NewSource(21))
		n := count(g)
		for ino := 1; ino <= n; ino++ {
			r.gets(ino, api.Inode{}, api.ENOENT)
		}
		said := map[int]api.Inode{}
		for _, i := range draw.Perm(n) {
			said[i+1] = drawn(draw)
			r.put(i+1, said[i+1])
		}
		r.same()
		for ino := 1; ino <= n; ino++ {
			r.gets(ino, said[ino], api.OK)
		}
		for _, i := range draw.Perm(n)[:n/2] {
			delete(said, i+1)
			r.clear(i + 1)
		}
		r.same()
		for ino := 1; ino <= n; ino++ {
			if x, ok := said[ino]; ok {
				r.gets(ino, x, api.OK)
			} else {
				r.gets(ino, api.Inode{}, api.ENOENT)
			}
		}
	}
}

// P12.2: all that may be is put, over whatever stood there, and is got again.
func TestPutGet(t *testing.T) {
	r := rigged(t, example)
	r.put(8, some(api.KindFile))
	for i, x := range inodes() {
		r.put(7, x)
		r.gets(7, x, api.OK)
		if i%9 == 0 {
			r.clear(7)
			r.gets(7, api.Inode{}, api.ENOENT)
		}
		r.gets(8, some(api.KindFile), api.OK)
	}
	r.same()
}

// P12.2: EINVAL of what may not be; it changes nothing.
func TestPutWrong(t *testing.T) {
	r := rigged(t, single)
	r.put(3, some(api.KindDir))
	was := see(r.s)
	for _, x := range wrongs() {
		for _, ino := range []int{3, 4, 0, 9, 65536} {
			if e := inode.Put(r.s, ino, x); e != api.EINVAL {
				t.Fatalf("Put(s, %d, %v): %d", ino, x, e)
			}
		}
	}
	if !reflect.DeepEqual(see(r.s), was) {
		t.Error("what was refused changed something")
	}
}

// P12.2: EINVAL of inodes that the disk hasn't.
func TestNoInode(t *testing.T) {
	for _, g := range all() {
		r := rigged(t, g)
		n := count(g)
		for _, ino := range append([]int{n + 1, n + 2, 8 * n, 65535}, noNumbers...) {
			r.refused(ino, some(api.KindFile), api.EINVAL, api.EINVAL, api.EINVAL)
		}
	}
}

// P12.2: EUCLEAN where the first two blocks are not what they must be, whatever is asked for; but what may not be put is refused ahead of that.
func TestNoDisk(t *testing.T) {
	for block := range 2 {
		r := rigged(t, example)
		r.put(1, some(api.KindDir))
		b := bytes.Clone(r.blocks[block])
		b[9] ^= 1
		r.write(block, b)
		for _, ino := range []int{1, 2, 32, 33, 65535} {
			r.refused(ino, some(api.KindFile), api.EUCLEAN, api.EUCLEAN, api.EUCLEAN)
			r.refused(ino, api.Inode{}, api.EUCLEAN, api.EINVAL, api.EUCLEAN)
		}
		for _, ino := range noNumbers {
			r.refused(ino, some(api.KindFile), api.EUCLEAN, api.EINVAL, api.EUCLEAN)
		}
	}
}

// R1: stores that are nil or that no New has made have no inodes; nor has a disk that nobody made.
func TestNoStore(t *testing.T) {
	d, _ := disk.New(300)
	blank, _ := store.New(d, 4, 16)
	for _, s := range []*store.Store{nil, {}, blank} {
		r := &rig{T: t, s: s}
		for _, ino := range []int{1, 2, 65535} {
			r.refused(ino, some(api.KindFile), api.EUCLEAN, api.EUCLEAN, api.EUCLEAN)
		}
		for _, ino := range noNumbers {
			r.refused(ino, some(api.KindFile), api.EUCLEAN, api.EINVAL, api.EUCLEAN)
		}
		r.refused(1, api.Inode{}, api.EUCLEAN, api.EINVAL, api.EUCLEAN)
	}
}

// P12.2: EUCLEAN of bytes that are no inode's; another inode's in the same block do not matter, nor do they turn by what is put beside them.
func TestNotWhole(t *testing.T) {
	draw := rand.New(rand.NewSource(22))
	for ino := 1; ino <= 32; ino++ {
		other := (ino - 1) ^ 1 + 1
		good := plainBytes(ino, some(api.KindDir))
		junk := make([]byte, 128)
		draw.Read(junk)
		for _, b := range [][]byte{junk, plainBytes(other, some(api.KindDir)), plainBytes(ino+65536, some(api.KindDir)), seal(make([]byte, 128), ino)} {
			r := rigged(t, example)
			r.lay(ino, b)
			r.gets(ino, api.Inode{}, api.EUCLEAN)
			r.gets(other, api.Inode{}, api.ENOENT)
			r.put(other, some(api.KindLink))
			r.gets(other, some(api.KindLink), api.OK)
			r.gets(ino, api.Inode{}, api.EUCLEAN)
			r.clear(other)
			r.put(ino, some(api.KindFile))
			r.gets(ino, some(api.KindFile), api.OK)
			r.lay(ino, b)
			r.clear(ino)
			r.gets(ino, api.Inode{}, api.ENOENT)
			r.clear(ino)
			r.lay(ino, good)
			r.gets(ino, some(api.KindDir), api.OK)
			r.same()
		}
	}
}

// P12.3: a bit that turns in an inode is told, and one that turns in the other inode of its block does not matter.
func TestBitOnDisk(t *testing.T) {
	r := rigged(t, single)
	r.put(5, some(api.KindDir))
	r.put(6, some(api.KindLink))
	block, _ := plainPlace(single, 5)
	good := bytes.Clone(r.blocks[block])
	for i := range 8 * 256 {
		b := bytes.Clone(good)
		b[i/8] ^= 1 << (i % 8)
		r.write(block, b)
		if i < 8*128 {
			r.gets(5, api.Inode{}, api.EUCLEAN)
			r.gets(6, some(api.KindLink), api.OK)
		} else {
			r.gets(5, some(api.KindDir), api.OK)
			r.gets(6, api.Inode{}, api.EUCLEAN)
		}
	}
}

// P12.2: what bitmaps and counts say does not matter, and stays: an inode may be put that nobody took.
func TestBitmapsStay(t *testing.T) {
	r := rigged(t, example)
	for _, n := range []int{98, 99, 200, 201} {
		r.write(n, bytes.Repeat([]byte{0xA5}, 256))
	}
	blocks, free, _ := alloc.Left(r.s)
	for ino := 1; ino <= 32; ino++ {
		r.put(ino, some(api.KindDir))
		r.gets(ino, some(api.KindDir), api.OK)
	}
	if a, b, e := alloc.Left(r.s); a != blocks || b != free || e != api.OK {
		t.Errorf("Left: %d %d %d, want %d %d", a, b, e, blocks, free)
	}
	r.same()
}

// P12.2, R3: what was put is not kept, and what is got is new memory.
func TestStoreShared(t *testing.T) {
	r := rigged(t, example)
	x := some(api.KindLink)
	r.put(3, x)
	x.Root[0] = 0
	got, _ := inode.Get(r.s, 3)
	got.Root[5] = 0
	_ = append(got.Root, 1, 2, 3)
	r.gets(3, some(api.KindLink), api.OK)
	r.same()
}

// P12.2, P12.3: any calls do to a disk what they do to a plain list; Back undoes them, commits and ways home lose nothing.
func TestAnyCalls(t *testing.T) {
	for i, g := range []api.Geometry{example, single, narrow} {
		r, draw, n := rigged(t, g), rand.New(rand.NewSource(int64(31+i))), count(g)
		said := map[int]api.Inode{}
		step := func(ino int) {
			switch draw.Intn(4) {
			case 0, 1:
				said[ino] = drawn(draw)
				r.put(ino, said[ino])
			case 2:
				delete(said, ino)
				r.clear(ino)
			case 3:
				if x, ok := said[ino]; ok {
					r.gets(ino, x, api.OK)
				} else {
					r.gets(ino, api.Inode{}, api.ENOENT)
				}
			}
		}
		for k := range 2000 {
			step(1 + draw.Intn(n))
			switch draw.Intn(30) {
			case 0:
				r.s.Commit()
			case 1:
				for _, w := range r.s.Waiting() {
					r.s.Home(w.Block)
				}
			case 2:
				undone(r, draw)
			}
			if k%200 == 0 {
				r.same()
			}
		}
		r.same()
		for ino := 1; ino <= n; ino++ {
			if x, ok := said[ino]; ok {
				r.gets(ino, x, api.OK)
			} else {
				r.gets(ino, api.Inode{}, api.ENOENT)
			}
		}
	}
}

// undone does some calls, and goes back.
func undone(r *rig, draw *rand.Rand) {
	r.Helper()
	was := see(r.s)
	for range 5 {
		ino := 1 + draw.Intn(count(r.g))
		if draw.Intn(2) == 0 {
			r.put(ino, drawn(draw))
		} else {
			r.clear(ino)
		}
	}
	if e := r.s.Back(was.mark); e != api.OK {
		r.Fatalf("Back(%d): %d", was.mark, e)
	}
	if !reflect.DeepEqual(see(r.s), was) {
		r.Fatal("what was undone left something")
	}
	r.blocks = see(r.s).blocks
}

// P12.2, R1: of a table of any bytes each inode is what Unpack says of its bytes.
func TestAnyTable(t *testing.T) {
	draw := rand.New(rand.NewSource(41))
	for range 20 {
		r := rigged(t, example)
		for ino := 1; ino <= 32; ino++ {
			b := make([]byte, 128)
			switch draw.Intn(5) {
			case 0:
				draw.Read(b)
			case 1:
				b = plainBytes(ino, drawn(draw))
			case 2:
				b = plainBytes(1+draw.Intn(32), drawn(draw))
			case 3:
				b = plainBytes(ino, wrongs()[draw.Intn(len(wrongs()))])
			}
			r.lay(ino, b)
		}
		for ino := 1; ino <= 32; ino++ {
			x, e := inode.Unpack(ino, r.bytesOf(ino))
			r.gets(ino, x, e)
		}
		r.same()
	}
}
