package alloc_test

import (
	"math"
	"testing"

	"hayrick/api"
)

// P10.5: the chapter's second example.
func TestInodeExample(t *testing.T) {
	r := rigged(t, example)
	r.getsInode(0, false, 1)
	r.getsInode(20, false, 17)
	r.getsInode(0, true, 2)
	r.same()
}

// P10.5: from which group on groups are asked for a file's inode, told one by one.
func TestNear(t *testing.T) {
	for _, x := range []struct{ near, ino int }{
		{math.MinInt, 1},
		{-17, 1},
		{-1, 1},
		{0, 1},
		{1, 1},
		{16, 1},
		{17, 17},
		{18, 17},
		{32, 17},
		{33, 1},
		{34, 1},
		{48, 1},
		{1 << 32, 1},
		{1<<32 + 17, 1},
		{math.MaxInt, 1},
	} {
		r := rigged(t, example)
		r.getsInode(x.near, false, x.ino)
		r.same()
	}
}

// P10.5: a file's inode is the first free one of the group, and then of those behind it, round; ENOSPC, if there is none.
func TestInodeRound(t *testing.T) {
	for _, g := range []api.Geometry{example, single, narrow} {
		n := len(spans(g)) * g.Inodes
		for near := 1; near <= n; near += 5 {
			r := rigged(t, g)
			first := (near - 1) / g.Inodes * g.Inodes
			for i := range n {
				r.getsInode(near, false, (first+i)%n+1)
			}
			r.same()
			r.refused(inodeCall(near, false), api.ENOSPC)
			r.refused(inodeCall(0, true), api.ENOSPC)
			r.freeInode(near, false)
			r.getsInode(1, false, near)
		}
	}
}

// P10.5: of several inodes that were given back the first one is taken.
func TestFirstFree(t *testing.T) {
	r := rigged(t, full)
	for range 512 {
		r.inode(513, false)
	}
	for _, ino := range []int{1000, 514, 513, 1024, 700, 520} {
		r.freeInode(ino, false)
	}
	for _, ino := range []int{513, 514, 520, 700, 1000, 1024, 1} {
		r.getsInode(600, false, ino)
	}
	r.same()
}

// P10.5: a directory's inode is of the group with the most free ones, of several the first one, whatever it is to be near.
func TestDirs(t *testing.T) {
	r := rigged(t, narrow)
	// All groups have eight: they are gone through in order, again and again.
	for round := range 8 {
		for group := range 14 {
			near := []int{0, 1, 50, 112, math.MinInt, math.MaxInt}[(round+group)%6]
			r.getsInode(near, true, 8*group+round+1)
		}
		r.same()
	}
	r.refused(inodeCall(0, true), api.ENOSPC)
	for _, ino := range []int{50, 90, 91, 112} {
		r.freeInode(ino, true)
	}
	for _, ino := range []int{90, 50, 91, 112} {
		r.getsInode(1, true, ino)
	}
	r.same()
}

// P10.5: it's the count that says which group has the most; where its bitmap has nothing, the others are asked from it on, in order, and round.
func TestDirsByCount(t *testing.T) {
	for group := range 14 {
		r := rigged(t, narrow)
		for range 8 {
			r.inode(8*group+1, false)
		}
		r.says(func(x *api.Super, l []api.Group) { l[group].FreeInodes = 9 })
		r.does(inodeCall(1, true), answer{a: 8*((group+1)%14) + 1})
		// Of a file it doesn't count.
		before := (group + 13) % 14
		r.does(inodeCall(8*before+1, false), answer{a: 8*before + 1})
	}
}

// P10.5: Dirs counts directories alone, in the group where they stand.
func TestDirsCounted(t *testing.T) {
	r := rigged(t, example)
	a, b, c := r.inode(0, true), r.inode(0, true), r.inode(17, false)
	r.same()
	if a != 1 || b != 17 || c != 18 || r.p.dirs[0] != 1 || r.p.dirs[1] != 1 {
		t.Fatalf("%d %d %d, Dirs %v", a, b, c, r.p.dirs)
	}
	r.freeInode(c, false)
	r.same()
	r.freeInode(b, true)
	r.same()
	r.freeInode(a, true)
	r.same()
}

// P10.5: EUCLEAN, if a count may not be; it may come to its edge.
func TestInodeCounts(t *testing.T) {
	r := rigged(t, example)
	r.inode(0, false)
	for _, dir := range []bool{false, true} {
		r.says(func(x *api.Super, l []api.Group) { l[0].FreeInodes, l[1].FreeInodes = 0, 0 })
		r.refused(inodeCall(0, dir), api.EUCLEAN)
		r.says(func(x *api.Super, l []api.Group) { x.FreeInodes = 0 })
		r.refused(inodeCall(0, dir), api.EUCLEAN)
	}
	r.says(func(x *api.Super, l []api.Group) { l[1].Dirs = 65535 })
	r.refused(inodeCall(17, true), api.EUCLEAN)
	r.says(func(x *api.Super, l []api.Group) {
		l[1].Dirs, l[1].FreeInodes = 65534, 1
		l[0].FreeInodes = 0
		x.FreeInodes = 1
	})
	r.does(inodeCall(1, true), answer{a: 17})
	r.does(leftCall(), answer{a: 182, b: 0})

	r = rigged(t, example)
	r.inode(0, true)
	for _, dir := range []bool{false, true} {
		r.says(func(x *api.Super, l []api.Group) { l[0].FreeInodes = 65535 })
		r.refused(freeInodeCall(1, dir), api.EUCLEAN)
		r.says(func(x *api.Super, l []api.Group) { x.FreeInodes = 32 })
		r.refused(freeInodeCall(1, dir), api.EUCLEAN)
	}
	r.says(func(x *api.Super, l []api.Group) { l[0].Dirs = 0 })
	r.refused(freeInodeCall(1, true), api.EUCLEAN)
	r.does(freeInodeCall(1, false), answer{})
	r = rigged(t, example)
	r.inode(0, true)
	r.says(func(x *api.Super, l []api.Group) { l[0].FreeInodes = 65534 })
	r.does(freeInodeCall(1, true), answer{})
	r.does(leftCall(), answer{a: 182, b: 32})
}

// P10.5: EUCLEAN of a bitmap that is read and is none; one that isn't read may be anything.
func TestInodeBitmap(t *testing.T) {
	for _, b := range broken(16, 99) {
		r := rigged(t, example)
		r.inode(0, false)
		r.put(99, b)
		r.put(98, filled(9)) // of the blocks: nobody asks
		for _, near := range []int{-1, 0, 1, 16, 33} {
			r.refused(inodeCall(near, false), api.EUCLEAN)
		}
		r.refused(freeInodeCall(1, false), api.EUCLEAN)
		r.refused(freeInodeCall(16, true), api.EUCLEAN)
		for i := range 16 {
			r.does(inodeCall(17, i%2 == 0), answer{a: 17 + i})
			if i == 0 {
				r.does(freeInodeCall(17, true), answer{})
				r.does(inodeCall(17, true), answer{a: 17})
			}
			r.says(func(x *api.Super, l []api.Group) { l[1].FreeInodes = 20 })
		}
		// The group 1 has none: then the group 0 is asked.
		r.refused(inodeCall(17, false), api.EUCLEAN)
		r.refused(inodeCall(17, true), api.EUCLEAN)
	}
}

// P10.5: EINVAL, if there is no such inode, whatever the bitmaps are; EUCLEAN, if it isn't taken.
func TestFreeInodeWrong(t *testing.T) {
	for _, g := range []api.Geometry{example, single, narrow} {
		r := rigged(t, g)
		n := len(r.p.inodes)
		outside := []int{math.MinInt, math.MinInt + 1, -16, -1, 0, n + 1, n + 2, 1 << 32, 1<<32 + 1, math.MaxInt}
		for _, ino := range outside {
			r.refused(freeInodeCall(ino, false), api.EINVAL)
			r.refused(freeInodeCall(ino, true), api.EINVAL)
		}
		for ino := 1; ino <= n; ino++ {
			r.refused(freeInodeCall(ino, ino%2 == 0), api.EUCLEAN)
		}
		for range n {
			r.inode(0, true)
		}
		r.freeInode(n, true)
		r.freeInode(1, true)
		r.refused(freeInodeCall(n, false), api.EUCLEAN)
		r.refused(freeInodeCall(1, true), api.EUCLEAN)
		for _, x := range r.p.groups {
			r.put(x.inodes, filled(0))
		}
		for _, ino := range outside {
			r.refused(freeInodeCall(ino, false), api.EINVAL)
		}
	}
}
