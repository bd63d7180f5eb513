package file

import (
	"hayrick/alloc"
	"hayrick/api"
	"hayrick/extent"
)

// write writes bytes from off on: how many.
func (b *body) write(off int, data []byte, goal int) (int, api.Errno) {
	if off < 0 {
		return 0, api.EINVAL
	}
	data = data[:min(len(data), api.MaxWrite)]
	if len(data) == 0 {
		return 0, api.OK
	}
	if off >= api.MaxSize {
		return 0, api.EFBIG
	}
	was := *b
	m, e := b.fill(off, min(len(data), api.MaxSize-off), goal)
	if e != api.OK {
		return 0, e
	}
	if e := b.layExtents(goal); e != api.OK {
		return 0, e
	}
	for p := range parts(off, m) {
		// A hole's new block still holds what somebody else let lie there.
		x, e := b.held(was.place(p.block))
		if e != api.OK {
			return 0, e
		}
		copy(x[p.from:p.to], data[p.at:])
		if e := b.lay(b.place(p.block), x); e != api.OK {
			return 0, e
		}
	}
	b.r.Size = max(b.r.Size, off+m)
	return m, api.OK
}

// fill takes blocks for the holes among those in which the m bytes from off on lie: how many of these bytes have a block then.
func (b *body) fill(off, m, goal int) (int, api.Errno) {
	last := (off + m - 1) / api.BlockSize
room:
	for p := range parts(off, m) {
		at, holes := extent.Find(b.l, p.block)
		if at != 0 {
			continue
		}
		switch e := b.take(p.block, min(holes, last-p.block+1), goal); {
		case e == api.ENOSPC && p.at > 0:
			m = p.at
			break room
		case e != api.OK:
			return 0, e
		}
	}
	return m, api.OK
}

// take takes blocks for want holes at most, from a block of the file on.
func (b *body) take(block, want, goal int) api.Errno {
	if ahead := b.place(block - 1); ahead != 0 {
		goal = ahead + 1
	}
	first, n, e := alloc.Blocks(b.s, goal, want)
	if e != api.OK {
		return e
	}
	b.l, e = extent.Add(b.l, api.Extent{Logical: block, Length: n, Physical: first})
	b.r.Blocks += n
	return e
}
