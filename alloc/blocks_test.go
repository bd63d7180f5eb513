package alloc_test

import (
	"math"
	"testing"

	"hayrick/api"
)

// P10.3, P10.4: the chapter's first example.
func TestExample(t *testing.T) {
	r := rigged(t, example)
	r.does(leftCall(), answer{a: 182, b: 32})
	r.gets(0, 4, 108, 4)
	r.gets(112, 100, 112, 88)
	r.gets(150, 2, 210, 2)
	r.free(112, 88)
	r.gets(112, 1, 212, 1)
	r.same()
	r.release()
	r.gets(112, 1, 112, 1)
	r.same()
}

// P10.3: from which group on groups are asked, and with what goal, told one by one.
func TestGoal(t *testing.T) {
	for _, x := range []struct{ goal, want, first, n int }{
		{math.MinInt, 4, 108, 4},
		{-1, 4, 108, 4},
		{0, 4, 108, 4},
		{1, 1, 108, 1}, // fixed
		{2, 5, 192, 5}, // of the journal
		{98, 1, 108, 1},
		{107, 1, 108, 1},
		{108, 3, 108, 3},
		{109, 3, 109, 3},
		{199, 1, 199, 1},
		{199, 9, 199, 1}, // the row ends with the group
		{150, 1000, 150, 50},
		{107, 1000, 128, 64},
		{200, 1, 210, 1}, // fixed, of the group 1
		{209, 2, 210, 2},
		{210, 1, 210, 1},
		{250, math.MaxInt, 250, 50},
		{299, 1, 299, 1},
		{300, 4, 108, 4},
		{301, 4, 108, 4},
		{350, 4, 108, 4},
		{400, 4, 108, 4},
		{1 << 32, 4, 108, 4},
		{1<<32 + 250, 4, 108, 4},
		{math.MaxInt, math.MaxInt, 128, 64},
	} {
		r := rigged(t, example)
		r.gets(x.goal, x.want, x.first, x.n)
		r.same()
	}
}

// P10.3: each goal, and numbers about, of a disk where not all is free.
func TestAllGoals(t *testing.T) {
	for _, g := range []api.Geometry{example, single, narrow} {
		r := rigged(t, g)
		for n := 3; n < g.Blocks; n += 7 {
			if !r.p.blocks[n] && n%5 > 0 {
				r.blocks(n, 1+n%3)
			}
		}
		p := r.p
		mark := r.s.Mark()
		for goal := -3; goal < g.Blocks+3; goal++ {
			for _, want := range []int{1, 2, 3, 8, 9, 200} {
				r.p = p.twin()
				r.blocks(goal, want)
				r.does(leftCall(), answer{a: free(r.p.blocks), b: free(r.p.inodes)})
				if e := r.s.Back(mark); e != api.OK {
					t.Fatalf("Back(%d): %d", mark, e)
				}
			}
		}
		r.p = p
		r.same()
	}
}

// P10.3: EINVAL, if want is below 1.
func TestWantWrong(t *testing.T) {
	r := rigged(t, example)
	for _, want := range []int{math.MinInt, math.MinInt + 1, -1, 0} {
		for _, goal := range []int{math.MinInt, -1, 0, 150, 299, 300, math.MaxInt} {
			r.refused(blocksCall(goal, want), api.EINVAL)
		}
	}
	// So it is where nothing is free, or a bitmap is none, too.
	r.takeAll(0)
	r.takeAll(1)
	r.refused(blocksCall(150, 0), api.EINVAL)
	r.put(98, filled(0))
	r.refused(blocksCall(150, 0), api.EINVAL)
}

// P10.3: groups are asked in order, and round, from the goal's on; a group that has nothing is passed over; ENOSPC, if none has anything.
func TestRound(t *testing.T) {
	for _, g := range []api.Geometry{example, narrow, wide} {
		n := len(spans(g))
		for from := range n {
			r := rigged(t, g)
			goal := r.p.groups[from].first
			for i := range n {
				group := (from + i) % n
				x := r.p.groups[group]
				if first, _ := r.blocks(goal, 1); first < x.data || first >= x.end {
					t.Fatalf("%v: from the group %d on, of which %d are full: block %d", g, from, i, first)
				}
				r.takeAll(group)
			}
			r.same()
			r.refused(blocksCall(goal, 1), api.ENOSPC)
			r.refused(blocksCall(goal, math.MaxInt), api.ENOSPC)
			r.refused(blocksCall(-1, 1), api.ENOSPC)
		}
	}
}

// P10.3: what a group counts doesn't say whether it is asked, nor how much of it is told: its bitmap does.
func TestCountsDoNotAsk(t *testing.T) {
	r := rigged(t, example)
	r.takeAll(0)
	r.says(func(x *api.Super, l []api.Group) { l[0].FreeBlocks = 50 })
	r.does(blocksCall(150, 2), answer{a: 210, b: 2})
	r = rigged(t, example)
	r.says(func(x *api.Super, l []api.Group) { l[0].FreeBlocks = 0 })
	r.refused(blocksCall(150, 2), api.EUCLEAN)
	r.refused(blocksCall(0, 2), api.EUCLEAN)
	r.does(blocksCall(250, 2), answer{a: 250, b: 2})
}

// P10.3: EUCLEAN, if a count would fall below 0; it may fall to 0.
func TestBlocksCounts(t *testing.T) {
	for _, n := range []int{1, 5, 50} {
		r := rigged(t, example)
		r.says(func(x *api.Super, l []api.Group) { l[0].FreeBlocks = n - 1 })
		r.refused(blocksCall(150, n), api.EUCLEAN)
		r.says(func(x *api.Super, l []api.Group) { x.FreeBlocks = n - 1 })
		r.refused(blocksCall(150, n), api.EUCLEAN)
		r.says(func(x *api.Super, l []api.Group) { x.FreeBlocks, l[0].FreeBlocks = n, n })
		r.does(blocksCall(150, n), answer{a: 150, b: n})
		r.does(leftCall(), answer{a: 0, b: 32})
		r.refused(blocksCall(150, n), api.EUCLEAN)
	}
}

// P10.3: what is held is taken, for Blocks, whether it was given back or not; it isn't when it is released.
func TestHeld(t *testing.T) {
	r := rigged(t, example)
	r.hold(108, 4)
	r.hold(150, 3)
	r.hold(199, 1)
	r.hold(0, 1)
	r.gets(108, 4, 144, 4)
	r.gets(149, 4, 149, 1)
	r.gets(150, 4, 156, 4)
	r.gets(199, 1, 148, 1)
	r.gets(200, 1, 210, 1)
	r.same()
	r.release()
	r.gets(108, 4, 108, 4)
	r.gets(150, 4, 150, 4)
	r.gets(199, 1, 199, 1)
	r.same()
}

// P10.3, P10.4: a group all of whose free blocks are held has nothing; if all groups are so there is no room, till they are released.
func TestAllHeld(t *testing.T) {
	for _, g := range all() {
		r := rigged(t, g)
		for _, x := range r.p.groups {
			r.hold(x.data, x.end-x.data)
		}
		r.refused(blocksCall(0, 1), api.ENOSPC)
		last := r.p.groups[len(r.p.groups)-1]
		r.refused(blocksCall(last.data, 1000), api.ENOSPC)
		r.same()
		r.release()
		r.gets(last.data, 1, last.data, 1)
	}
}

// P10.3, P10.7: fixed blocks are taken, for Blocks, even if somebody laid a bitmap that says that they are free.
func TestFixed(t *testing.T) {
	r := rigged(t, example)
	r.put(98, bitmap(make([]bool, 200), 98))
	r.put(200, bitmap(make([]bool, 100), 200))
	for _, goal := range []int{-1, 0, 1, 2, 98, 99, 100, 107} {
		mark := r.s.Mark()
		r.does(blocksCall(goal, 4), answer{a: 108, b: 4})
		r.s.Back(mark)
	}
	for _, goal := range []int{200, 201, 202, 209} {
		mark := r.s.Mark()
		r.does(blocksCall(goal, 2), answer{a: 210, b: 2})
		r.s.Back(mark)
	}
	taken := make([]bool, 200)
	for n := 108; n < 200; n++ {
		taken[n] = true
	}
	r.put(98, bitmap(taken, 98))
	r.does(blocksCall(0, 2), answer{a: 210, b: 2})
}

// broken are blocks that are no bitmap of so many that stands in a block.
func broken(size, at int) [][]byte {
	taken := make([]bool, size)
	turned := bitmap(taken, at)
	turned[3] ^= 4
	return [][]byte{
		filled(0),
		filled(255),
		turned,
		bitmap(taken, at+1),
		bitmap(taken, 0),
		bitmap(make([]bool, size+1), at), // a bit behind the last one is free
		bitmap(make([]bool, 2016), at),
	}
}

// P10.3, P10.4: EUCLEAN of a bitmap that is read and is none; one that isn't read may be anything.
func TestBlocksBitmap(t *testing.T) {
	for _, b := range broken(200, 98) {
		r := rigged(t, example)
		r.put(98, b)
		for _, goal := range []int{-1, 0, 108, 150, 300} {
			r.refused(blocksCall(goal, 1), api.EUCLEAN)
		}
		r.refused(freeCall(108, 1), api.EUCLEAN)
		r.refused(freeCall(150, 50), api.EUCLEAN)
		r.does(blocksCall(250, 1), answer{a: 250, b: 1})
		r.does(freeCall(250, 1), answer{})
		// The group 1 has nothing: then the group 0 is asked.
		r.takeAll(1)
		r.put(98, b)
		r.refused(blocksCall(250, 1), api.EUCLEAN)
	}
	for _, b := range broken(100, 200) {
		r := rigged(t, example)
		r.put(200, b)
		r.refused(blocksCall(200, 1), api.EUCLEAN)
		r.refused(freeCall(250, 1), api.EUCLEAN)
		r.does(blocksCall(0, 1), answer{a: 108, b: 1})
		r.put(201, filled(9)) // of the inodes: nobody asks
		r.does(freeCall(108, 1), answer{})
	}
}

// P10.4: what is given back is free, and held; both counts are so many more.
func TestFree(t *testing.T) {
	for _, g := range all() {
		r := rigged(t, g)
		for group := range r.p.groups {
			r.takeAll(group)
		}
		for _, x := range r.p.groups {
			r.free(x.end-1, 1)
			if x.end-x.data > 3 {
				r.free(x.data, 1)
				r.free(x.data+1, x.end-x.data-2)
			}
			r.same()
			r.refused(blocksCall(x.data, 1), api.ENOSPC)
		}
		r.release()
		for range r.p.groups {
			r.blocks(-1, 1)
		}
		r.same()
	}
}

// P10.4: all data of a group may be given back at one time.
func TestFreeGroup(t *testing.T) {
	for _, g := range all() {
		r := rigged(t, g)
		for group, x := range r.p.groups {
			r.takeAll(group)
			r.free(x.data, x.end-x.data)
			r.same()
		}
	}
}

// P10.4: EINVAL, if there is not at least one block, or not all of them are data of one group: that stands ahead of whether they are taken, and of whether their bitmap is one.
func TestFreeWrong(t *testing.T) {
	far := []int{math.MinInt, math.MinInt + 1, -1 << 32, -1, 0, 1 << 32, math.MaxInt - 1, math.MaxInt}
	for _, lay := range []func(r *rig){
		func(r *rig) {},
		func(r *rig) { r.takeAll(0); r.takeAll(1) },
		func(r *rig) { r.put(98, filled(0)); r.put(200, filled(0)) },
	} {
		r := rigged(t, example)
		lay(r)
		for _, x := range r.p.groups {
			for _, n := range []int{math.MinInt, math.MinInt + 1, -x.end, -1, 0} {
				r.refused(freeCall(x.data, n), api.EINVAL)
				r.refused(freeCall(x.end-1, n), api.EINVAL)
			}
			for first := x.first; first < x.end; first++ {
				for _, n := range []int{x.end - first + 1, x.end - first + 2, 300, 1 << 32, math.MaxInt - first, math.MaxInt - first + 1, math.MaxInt} {
					r.refused(freeCall(first, n), api.EINVAL)
				}
			}
			for first := x.first; first < x.data; first++ {
				for _, n := range []int{1, 2, x.data - first, x.data - first + 1, x.end - first} {
					r.refused(freeCall(first, n), api.EINVAL)
				}
			}
		}
		for _, first := range append(far, -2, 300, 301, 350, 400, 1<<32+108) {
			for _, n := range append(far, 1, 2, 108, 300, -first, 110-first) {
				r.refused(freeCall(first, n), api.EINVAL)
			}
		}
	}
}

// P10.4: EUCLEAN, if one of the blocks isn't taken, be it the first one or the last one, be it held or not.
func TestFreeNotTaken(t *testing.T) {
	for gap := 120; gap < 140; gap++ {
		r := rigged(t, example)
		r.takeAll(0, gap)
		if gap%2 == 0 {
			r.hold(gap, 1)
		}
		r.refused(freeCall(gap, 1), api.EUCLEAN)
		r.refused(freeCall(gap, 10), api.EUCLEAN)
		r.refused(freeCall(gap-9, 10), api.EUCLEAN)
		r.refused(freeCall(120, 20), api.EUCLEAN)
		r.refused(freeCall(108, 92), api.EUCLEAN)
		r.free(108, gap-108)
		r.free(gap+1, 199-gap)
		r.refused(freeCall(gap+1, 1), api.EUCLEAN)
		r.same()
	}
}

// P10.4: a block that is held and taken may be given back; it stays held.
func TestFreeHeld(t *testing.T) {
	r := rigged(t, example)
	r.takeAll(0)
	r.hold(150, 1)
	r.free(149, 3)
	r.same()
}

// P10.4: EUCLEAN, if a count would pass what layout allows; it may come to that.
func TestFreeCounts(t *testing.T) {
	for _, n := range []int{1, 5, 50} {
		r := rigged(t, example)
		r.takeAll(0)
		r.says(func(x *api.Super, l []api.Group) { l[0].FreeBlocks = 65535 - n + 1 })
		r.refused(freeCall(150, n), api.EUCLEAN)
		r.says(func(x *api.Super, l []api.Group) { x.FreeBlocks = 182 - n + 1 })
		r.refused(freeCall(150, n), api.EUCLEAN)
		r.says(func(x *api.Super, l []api.Group) { x.FreeBlocks, l[0].FreeBlocks = 182-n, 65535-n })
		r.does(freeCall(150, n), answer{})
		r.does(leftCall(), answer{a: 182, b: 32})
		r.refused(freeCall(110, 1), api.EUCLEAN)
	}
}
