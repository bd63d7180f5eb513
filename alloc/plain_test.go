package alloc_test

import (
	"encoding/binary"
	"hash/crc32"
	"maps"
	"slices"

	"hayrick/api"
)

// The chapter's own geometry, and others: one group, as many as there may be with as little room as there may be, the greatest ones.
var (
	example = api.Geometry{Blocks: 300, PerGroup: 200, Inodes: 16, Journal: 96}
	single  = api.Geometry{Blocks: 128, PerGroup: 128, Inodes: 8, Journal: 96}
	narrow  = api.Geometry{Blocks: 13*105 + 7, PerGroup: 105, Inodes: 8, Journal: 96}
	wide    = api.Geometry{Blocks: 4096, PerGroup: 2016, Inodes: 122, Journal: 512}
	full    = api.Geometry{Blocks: 4032, PerGroup: 2016, Inodes: 512, Journal: 97}
)

// all are these.
func all() []api.Geometry { return []api.Geometry{example, single, narrow, wide, full} }

// span is a group of a plain disk: its blocks, and where its own parts begin.
type span struct{ first, end, blocks, inodes, table, data int }

func spans(g api.Geometry) []span {
	var l []span
	for first := 0; first < g.Blocks; first += g.PerGroup {
		x := span{first: first, end: min(first+g.PerGroup, g.Blocks), blocks: first}
		if first == 0 {
			x.blocks = 2 + g.Journal
		}
		x.inodes, x.table = x.blocks+1, x.blocks+2
		x.data = x.table + g.Inodes/2
		l = append(l, x)
	}
	return l
}

// plain is what the document says of a disk's blocks and inodes: which are taken, which ones held; the rest follows.
type plain struct {
	g      api.Geometry
	groups []span
	blocks []bool // taken
	inodes []bool // taken, the inode 1 first
	dirs   []int
	held   map[int]bool
}

func newPlain(g api.Geometry) *plain {
	p := &plain{g: g, groups: spans(g), blocks: make([]bool, g.Blocks), held: map[int]bool{}}
	for _, x := range p.groups {
		for n := x.first; n < x.data; n++ {
			p.blocks[n] = true
		}
	}
	p.inodes = make([]bool, len(p.groups)*g.Inodes)
	p.dirs = make([]int, len(p.groups))
	return p
}

func (p *plain) twin() *plain {
	c := *p
	c.blocks, c.inodes, c.dirs, c.held = slices.Clone(p.blocks), slices.Clone(p.inodes), slices.Clone(p.dirs), maps.Clone(p.held)
	return &c
}

// inodesOf are those of a group, which may be written into.
func (p *plain) inodesOf(group int) []bool { return p.inodes[group*p.g.Inodes:][:p.g.Inodes] }

// counts are what block 1 says of the groups.
func (p *plain) counts() []api.Group {
	var l []api.Group
	for i, x := range p.groups {
		l = append(l, api.Group{FreeBlocks: free(p.blocks[x.first:x.end]), FreeInodes: free(p.inodesOf(i)), Dirs: p.dirs[i]})
	}
	return l
}

// super is what block 0 says of a disk of which nothing else was said.
func (p *plain) super() api.Super {
	return api.Super{Geometry: p.g, FreeBlocks: free(p.blocks), FreeInodes: free(p.inodes)}
}

// free is how many are not taken.
func free(taken []bool) int {
	n := 0
	for _, is := range taken {
		if !is {
			n++
		}
	}
	return n
}

// asked are all numbers below n, from one on, in order, and round.
func asked(n, first int) []int {
	var l []int
	for i := range n {
		l = append(l, i)
	}
	return slices.Concat(l[first:], l[:first])
}

// take is P10.3.
func (p *plain) take(goal, want int) (int, int, api.Errno) {
	if want < 1 {
		return 0, 0, api.EINVAL
	}
	within := func(x span) bool { return x.first <= goal && goal < x.end }
	for _, i := range asked(len(p.groups), max(slices.IndexFunc(p.groups, within), 0)) {
		x := p.groups[i]
		may := make([]bool, 2016)
		for n := x.first; n < x.end; n++ {
			may[n-x.first] = !p.blocks[n] && !p.held[n]
		}
		place := -1
		if within(x) {
			place = goal - x.first
		}
		if from, n, ok := plainFind(may, place, want); ok {
			for j := range n {
				p.blocks[x.first+from+j] = true
			}
			return x.first + from, n, api.OK
		}
	}
	return 0, 0, api.ENOSPC
}

// give is P10.4.
func (p *plain) give(first, n int) api.Errno {
	fits := func(x span) bool { return x.data <= first && first < x.end && n <= x.end-first }
	if n < 1 || !slices.ContainsFunc(p.groups, fits) {
		return api.EINVAL
	}
	if slices.Contains(p.blocks[first:first+n], false) {
		return api.EUCLEAN
	}
	for i := range n {
		p.blocks[first+i] = false
		p.held[first+i] = true
	}
	return api.OK
}

// roomiest is the group with the most free inodes, of several the first one.
func (p *plain) roomiest() int {
	most := 0
	for i := range p.groups {
		if free(p.inodesOf(i)) > free(p.inodesOf(most)) {
			most = i
		}
	}
	return most
}

// takeInode is P10.5's Inode.
func (p *plain) takeInode(near int, dir bool) (int, api.Errno) {
	first := 0
	if near >= 1 && near <= len(p.inodes) {
		first = (near - 1) / p.g.Inodes
	}
	if dir {
		first = p.roomiest()
	}
	for _, i := range asked(len(p.groups), first) {
		if at := slices.Index(p.inodesOf(i), false); at >= 0 {
			p.inodesOf(i)[at] = true
			if dir {
				p.dirs[i]++
			}
			return i*p.g.Inodes + at + 1, api.OK
		}
	}
	return 0, api.ENOSPC
}

// giveInode is P10.5's FreeInode.
func (p *plain) giveInode(ino int, dir bool) api.Errno {
	if ino < 1 || ino > len(p.inodes) {
		return api.EINVAL
	}
	group := (ino - 1) / p.g.Inodes
	if !p.inodes[ino-1] || dir && p.dirs[group] == 0 {
		return api.EUCLEAN
	}
	p.inodes[ino-1] = false
	if dir {
		p.dirs[group]--
	}
	return api.OK
}

// plainFind is chapter 5's Find, of 2016 bits that are free or not.
func plainFind(free []bool, goal, want int) (int, int, bool) {
	if goal >= 0 && free[goal] {
		n := 0
		for n < want && goal+n < 2016 && free[goal+n] {
			n++
		}
		return goal, n, true
	}
	k := 0
	for k < 10 && 1<<k < want {
		k++
	}
	for order := k; order <= 10; order++ {
		if first, ok := buddy(free, order); ok {
			return first, min(want, 1024), true
		}
	}
	for order := k - 1; order >= 0; order-- {
		if first, ok := buddy(free, order); ok {
			return first, 1 << order, true
		}
	}
	return 0, 0, false
}

// buddy is where the first chunk of an order begins that is a buddy's.
func buddy(free []bool, order int) (int, bool) {
	isFree := func(length, n int) bool {
		first := n / length * length
		return first+length <= 2016 && !slices.Contains(free[first:first+length], false)
	}
	for first := 0; first < 2016; first += 1 << order {
		if isFree(1<<order, first) && (order == 10 || !isFree(2<<order, first)) {
			return first, true
		}
	}
	return 0, false
}

// sealed is a block that begins with these bytes, with the seal that chapter 1 asks for, worked out by somebody else.
func sealed(begin []byte, seed int) []byte {
	b := make([]byte, 256)
	copy(b, begin)
	binary.LittleEndian.PutUint32(b[252:], crc32.Update(uint32(seed), crc32.MakeTable(crc32.Castagnoli), b[:252]))
	return b
}

// bitmap is the block of which each bit says whether a thing is taken; those behind the last one are set.
func bitmap(taken []bool, seed int) []byte {
	b := make([]byte, 252)
	for i := range 2016 {
		if i >= len(taken) || taken[i] {
			b[i/8] |= 1 << (i % 8)
		}
	}
	return sealed(b, seed)
}

func superBlock(x api.Super) []byte {
	b := []byte{0x49, 0x52, 0x59, 0x48, 1, 0}
	g := x.Geometry
	for _, n := range []int{g.Blocks, g.PerGroup, g.Inodes, g.Journal, x.FreeBlocks, x.FreeInodes, x.Orphan, x.Mounts} {
		b = binary.LittleEndian.AppendUint32(b, uint32(n))
	}
	if x.Clean {
		b = append(b, 1)
	}
	return sealed(b, 0)
}

func groupsBlock(l []api.Group) []byte {
	var b []byte
	for _, x := range l {
		for _, n := range []int{x.FreeBlocks, x.FreeInodes, x.Dirs} {
			b = binary.LittleEndian.AppendUint32(b, uint32(n))
		}
	}
	return sealed(b, 1)
}

// laid are the blocks that say what is taken, by their numbers.
func (p *plain) laid() map[int][]byte {
	l := map[int][]byte{0: superBlock(p.super()), 1: groupsBlock(p.counts())}
	for i, x := range p.groups {
		l[x.blocks] = bitmap(p.blocks[x.first:x.end], x.blocks)
		l[x.inodes] = bitmap(p.inodesOf(i), x.inodes)
	}
	return l
}
