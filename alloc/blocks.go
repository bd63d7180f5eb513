package alloc

import (
	"bytes"

	"hayrick/api"
	"hayrick/bits"
)

// takeBlocks takes a row of them: the first one, and how many.
func (l *ledger) takeBlocks(goal, want int) (int, int, api.Errno) {
	if want < 1 {
		return 0, 0, api.EINVAL
	}
	for group := range l.round(l.groupOf(goal)) {
		p := placeOf(l.super.Geometry, group)
		x, e := l.read(p.blocks, p.end-p.first)
		if e != api.OK {
			return 0, 0, e
		}
		from, n, ok := bits.Find(l.toBeHad(p, x), p.within(goal), want)
		if !ok {
			continue
		}
		if e := l.turn(x, from, n, true); e != api.OK {
			return 0, 0, e
		}
		if e := l.count(group, api.Group{FreeBlocks: -n}); e != api.OK {
			return 0, 0, e
		}
		return p.first + from, n, api.OK
	}
	return 0, 0, api.ENOSPC
}

// giveBlocks gives a row of them back; they are held then.
func (l *ledger) giveBlocks(first, n int) api.Errno {
	group := l.groupOf(first)
	p := placeOf(l.super.Geometry, group)
	// first + n could come round; p.end - first can't, once first isn't below the data.
	if n < 1 || first < p.data || n > p.end-first {
		return api.EINVAL
	}
	x, e := l.read(p.blocks, p.end-p.first)
	if e != api.OK {
		return e
	}
	if e := l.turn(x, first-p.first, n, false); e != api.OK {
		return e
	}
	for i := range n {
		if e := l.s.Hold(first + i); e != api.OK {
			return e
		}
	}
	return l.count(group, api.Group{FreeBlocks: n})
}

// groupOf is the group in which a block lies; the first one, if there is no such block.
func (l *ledger) groupOf(n int) int {
	g := l.super.Geometry
	if n < 0 || n >= g.Blocks {
		return 0
	}
	return n / g.PerGroup
}

// within is a block's place in the group; -1, if it lies in another one.
func (p place) within(n int) int {
	if n < p.first || n >= p.end {
		return -1
	}
	return n - p.first
}

// toBeHad is a bitmap of blocks in which those that nobody may have are taken: the held ones, and the fixed ones, whatever it says of them.
func (l *ledger) toBeHad(p place, x bitmap) []byte {
	b := bytes.Clone(x.data)
	for i := range x.size {
		if n := p.first + i; n < p.data || l.s.Held(n) {
			b[i/8] |= 1 << (i % 8)
		}
	}
	return b
}
