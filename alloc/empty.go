package alloc

import (
	"hayrick/api"
	"hayrick/bits"
	"hayrick/layout"
)

// place is where a group lies.
type place struct {
	first, end                  int // its blocks
	blocks, inodes, table, data int // where its bitmaps, its table and its data begin
}

// placeOf is that of a group that is there: such a one layout doesn't refuse.
func placeOf(g api.Geometry, group int) place {
	var p place
	p.first, p.end, _ = layout.Span(g, group)
	p.blocks, p.inodes, p.table, p.data, _ = layout.Place(g, group)
	return p
}

// emptyDisk is what stands on one whose geometry may be, in the order in which it is written.
func emptyDisk(g api.Geometry) ([]api.Write, api.Errno) {
	var l []api.Write
	n := layout.Groups(g)
	c := counts{super: api.Super{Geometry: g}, groups: make([]api.Group, n)}
	for group := range n {
		p := placeOf(g, group)
		writes, e := emptyGroup(g, p)
		if e != api.OK {
			return nil, e
		}
		l = append(l, writes...)
		c.add(group, api.Group{FreeBlocks: p.end - p.data, FreeInodes: g.Inodes})
	}
	writes, e := c.pack()
	return append(l, writes...), e
}

// emptyGroup is its bitmaps and its table.
func emptyGroup(g api.Geometry, p place) ([]api.Write, api.Errno) {
	size, seed := p.end-p.first, uint32(p.blocks)
	blocks, e := bits.New(size, seed)
	if e != api.OK {
		return nil, e
	}
	blocks, e = bits.Turn(blocks, size, 0, p.data-p.first, true, seed)
	if e != api.OK {
		return nil, e
	}
	inodes, e := bits.New(g.Inodes, uint32(p.inodes))
	if e != api.OK {
		return nil, e
	}
	l := []api.Write{{Block: p.blocks, Data: blocks}, {Block: p.inodes, Data: inodes}}
	for n := p.table; n < p.data; n++ {
		l = append(l, api.Write{Block: n, Data: make([]byte, api.BlockSize)})
	}
	return l, api.OK
}
