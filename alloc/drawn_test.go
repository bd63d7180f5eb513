package alloc_test

import (
	"bytes"
	"maps"
	"math"
	"math/rand"
	"reflect"
	"slices"
	"testing"

	"hayrick/api"
)

// writes: does a call write a bitmap, which stands in a block, then block 1, then block 0, and hold so many? It is undone behind that.
func (r *rig) writes(c call, at, holds int) {
	r.Helper()
	r.s.Commit()
	if got := c.does(r.s); got.e != api.OK {
		r.Fatalf("%s: %d", c.name, got.e)
	}
	if mark := r.s.Mark(); mark != 3+holds {
		r.Fatalf("%s: Mark %d, want %d", c.name, mark, 3+holds)
	}
	var l []int
	for mark := r.s.Mark() - 1; mark >= 0; mark-- {
		was := r.s.Changed()
		r.s.Back(mark)
		for _, n := range was {
			if !slices.Contains(r.s.Changed(), n) {
				l = append(l, n)
			}
		}
	}
	if !slices.Equal(l, []int{0, 1, at}) {
		r.Fatalf("%s wrote, told from the last one on: %v, want 0 1 %d", c.name, l, at)
	}
}

// P10.6: each call writes three blocks, in this order, once each.
func TestThreeBlocks(t *testing.T) {
	for _, g := range all() {
		r := rigged(t, g)
		for group, x := range r.p.groups {
			ino := group*g.Inodes + 1
			r.inode(ino, false)
			r.writes(inodeCall(ino, false), x.inodes, 0)
			r.writes(inodeCall(ino, true), r.p.groups[r.p.roomiest()].inodes, 0)
			r.writes(freeInodeCall(ino, false), x.inodes, 0)
			r.writes(blocksCall(x.data, 9), x.blocks, 0)
			r.takeAll(group)
			r.writes(freeCall(x.data, 1), x.blocks, 1)
			r.writes(freeCall(x.data, x.end-x.data), x.blocks, x.end-x.data)
			r.same()
		}
	}
}

// drawing is a rig whose calls are drawn.
type drawing struct {
	*rig
	*rand.Rand
	given map[int]bool // blocks that were given, and not given back
	most  int          // how many at one time
	wants int          // how many blocks are wanted at one time, at most
	fills bool         // more is taken than given back
}

// number is a drawn one, mostly of those below n.
func (w *drawing) number(n int) int {
	if w.Intn(15) == 0 {
		return []int{math.MinInt, -1, 0, n, n + 1, math.MaxInt}[w.Intn(6)]
	}
	return w.Intn(n)
}

// take asks for blocks: none may be one that was given already, or that is fixed, or held.
func (w *drawing) take() {
	w.Helper()
	held := maps.Clone(w.p.held)
	first, n := w.blocks(w.number(w.p.g.Blocks), w.number(1+w.wants))
	for i := range n {
		at := first + i
		data := slices.ContainsFunc(w.p.groups, func(x span) bool { return x.data <= at && at < x.end })
		if w.given[at] || held[at] || !data {
			w.Fatalf("block %d was given, which was given already %t, held %t, data %t", at, w.given[at], held[at], data)
		}
		w.given[at] = true
	}
	w.most = max(w.most, len(w.given))
}

// give gives a row back, mostly one of blocks that were given.
func (w *drawing) give() {
	w.Helper()
	first, n := w.number(w.p.g.Blocks), w.number(9)
	if w.Intn(8) > 0 {
		for range w.p.g.Blocks {
			if first++; first < 0 || first >= w.p.g.Blocks {
				first = 0
			}
			if w.given[first] {
				break
			}
		}
		n = 0
		for w.given[first+n] && (n == 0 || w.Intn(9) > 0) {
			n++
		}
	}
	was := w.read(0)
	w.free(first, n)
	if !bytes.Equal(was, w.read(0)) {
		for i := range n {
			delete(w.given, first+i)
		}
	}
}

// step does one drawn call.
func (w *drawing) step() {
	w.Helper()
	inodes := len(w.p.inodes) + 1
	takes := w.Intn(4) == 0 != w.fills
	switch k := w.Intn(40); {
	case k < 22 && takes:
		w.take()
	case k < 22:
		w.give()
	case k < 36 && takes:
		w.inode(w.number(inodes), w.Intn(2) == 0)
	case k < 36:
		w.freeInode(w.number(inodes), w.Intn(2) == 0)
	case k < 37:
		w.home()
	case k < 39:
		w.s.Commit()
	default:
		w.release()
	}
}

// P10.3 to P10.7: any calls do to a disk what they do to a plain one: the counts are the bitmaps', each block has one owner, what was given back comes again only when it is released.
func TestPlainAlloc(t *testing.T) {
	for i, g := range all() {
		w := &drawing{rig: rigged(t, g), Rand: rand.New(rand.NewSource(int64(101 + i))), given: map[int]bool{}, wants: g.Blocks / 20}
		steps := 2000
		if g.Blocks > 2000 {
			steps = 500
		}
		for n := range steps {
			w.fills = n*5/steps%2 == 0
			w.step()
			w.same()
		}
		data := free(newPlain(g).blocks)
		if w.most < data*3/4 {
			t.Errorf("%v: %d of %d blocks were taken at most: the draw asks too little", g, w.most, data)
		}
	}
}

// P10.7: a call that is undone by Back was never done.
func TestUndone(t *testing.T) {
	w := &drawing{rig: rigged(t, example), Rand: rand.New(rand.NewSource(7)), given: map[int]bool{}, wants: 9}
	for range 150 {
		for range w.Intn(3) {
			w.step()
		}
		mark, was, p, given := w.s.Mark(), see(w.s), w.p.twin(), maps.Clone(w.given)
		for range 1 + w.Intn(4) {
			switch w.Intn(4) {
			case 0:
				w.take()
			case 1:
				w.give()
			case 2:
				w.inode(w.number(33), w.Intn(2) == 0)
			case 3:
				w.freeInode(w.number(33), w.Intn(2) == 0)
			}
		}
		w.s.Back(mark)
		w.p, w.given = p, given
		if !reflect.DeepEqual(see(w.s), was) {
			t.Fatal("what was undone left something")
		}
		w.same()
	}
}

// P10.7: two stores over disks that were made alike answer the same, whatever their caches are; and a store over the disk goes on where another one brought all home.
func TestOverAgain(t *testing.T) {
	r := rigged(t, example)
	r.blocks(150, 20)
	r.free(155, 5)
	r.inode(20, true)
	twin := rigged(t, example)
	twin.blocks(150, 20)
	twin.free(155, 5)
	twin.inode(20, true)
	if !reflect.DeepEqual(see(r.s), see(twin.s)) {
		t.Fatal("two that were done alike differ")
	}
	r.home()
	again := on(t, r.d, example)
	again.p = r.p.twin()
	again.p.held = map[int]bool{} // what is held is the store's own, and not the disk's
	again.same()
	again.gets(155, 9, 155, 5)
	again.same()
}

// P10.5, R1: calls of any numbers over disks of any bitmaps and counts end; what is refused changes nothing, what is done has right seals.
func TestAnyDisk(t *testing.T) {
	draw := rand.New(rand.NewSource(5))
	codes := map[api.Errno]int{}
	for range 150 {
		r := rigged(t, example)
		garble(r, draw)
		for range 12 {
			w := &drawing{rig: r, Rand: draw}
			n, m, dir := w.number(310), w.number(40), draw.Intn(2) == 0
			c := []call{blocksCall(n, m), freeCall(n, m), inodeCall(m, dir), freeInodeCall(m, dir), placeCall(m), leftCall(), superCall()}[draw.Intn(7)]
			was := see(r.s)
			got := c.does(r.s)
			codes[got.e]++
			if got.e != api.OK && (got != answer{e: got.e} || !reflect.DeepEqual(see(r.s), was)) {
				t.Fatalf("%s, which was refused: %v, or it changed something", c.name, got)
			}
			for _, at := range r.s.Changed() {
				if b := r.read(at); got.e == api.OK && !bytes.Equal(b, was.blocks[at]) && !bytes.Equal(b, sealed(b[:252], at)) {
					t.Fatalf("%s wrote block %d: %x", c.name, at, b)
				}
			}
		}
	}
	for _, e := range []api.Errno{api.OK, api.EINVAL, api.ENOSPC, api.EUCLEAN} {
		if codes[e] < 20 {
			t.Errorf("error %d was answered %d times: the draw asks too little", e, codes[e])
		}
	}
}

// garble lets bitmaps and counts hold drawn bits and numbers, mostly with right seals.
func garble(r *rig, draw *rand.Rand) {
	taken := func(n int) []bool {
		l := make([]bool, n)
		odds := draw.Intn(3)
		for i := range l {
			l[i] = odds == 2 || odds == 1 && draw.Intn(2) == 0
		}
		return l
	}
	for _, x := range r.p.groups {
		if draw.Intn(3) > 0 {
			r.put(x.blocks, bitmap(taken(x.end-x.first), x.blocks))
		}
		if draw.Intn(3) > 0 {
			r.put(x.inodes, bitmap(taken(16), x.inodes))
		}
	}
	if draw.Intn(2) == 0 {
		r.says(func(x *api.Super, l []api.Group) {
			x.FreeBlocks, x.FreeInodes = draw.Intn(183), draw.Intn(33)
			for i := range l {
				l[i] = api.Group{FreeBlocks: draw.Intn(65536), FreeInodes: draw.Intn(65536), Dirs: draw.Intn(2) * draw.Intn(65536)}
			}
		})
	}
	if draw.Intn(4) == 0 {
		b := make([]byte, 256)
		draw.Read(b)
		r.put([]int{0, 1, 98, 99, 200, 201}[draw.Intn(6)], b)
	}
}
