package extent_test

import (
	"bytes"
	"encoding/binary"
	"hash/crc32"
	"math"
	"math/rand"
	"slices"

	"hayrick/api"
	"hayrick/store"
)

// far are numbers that no field may have, and such that come round where they are added to others.
var far = []int{math.MinInt, math.MinInt + 1, -1 << 32, -257, -256, -1, 4096, 4097, 1 << 31, 1<<32 - 1, 1 << 32, 1<<32 + 1, math.MaxInt - 256, math.MaxInt - 1, math.MaxInt}

// sizes are how many extents a list may have, at the edges of nodes and levels and between.
var sizes = []int{0, 1, 2, 3, 4, 5, 19, 20, 21, 39, 40, 41, 59, 60, 61, 79, 80, 81, 120, 199, 200, 201, 239, 240, 241, 254, 255, 256}

// row is where each block of a file lies; 0: it is a hole.
type row [256]int

// list is the one list of a row that may be.
func (r row) list() []api.Extent {
	var l []api.Extent
	for i, at := range r {
		switch {
		case at == 0:
		case i > 0 && r[i-1] > 0 && at == r[i-1]+1:
			l[len(l)-1].Length++
		default:
			l = append(l, api.Extent{Logical: i, Length: 1, Physical: at})
		}
	}
	return l
}

// only is the row with holes where it isn't asked for.
func (r row) only(asked func(i int) bool) row {
	for i := range r {
		if !asked(i) {
			r[i] = 0
		}
	}
	return r
}

// rowOf is the row of a list whose extents may each be by itself.
func rowOf(l []api.Extent) row {
	var r row
	for _, x := range l {
		for i := range x.Length {
			r[x.Logical+i] = x.Physical + i
		}
	}
	return r
}

func aloneMayBe(x api.Extent) bool {
	for _, n := range []int{x.Logical, x.Length, x.Physical} {
		if n < 0 || n > 4096 {
			return false
		}
	}
	return x.Length > 0 && x.Physical > 0 && x.Logical+x.Length <= 256 && x.Physical+x.Length <= 4096
}

// plainMayBe is the chapter's word: such a list is the one of its row.
func plainMayBe(l []api.Extent) bool {
	return !slices.ContainsFunc(l, func(x api.Extent) bool { return !aloneMayBe(x) }) && slices.Equal(rowOf(l).list(), l)
}

// plainFind is P13.1's, of a list that may be.
func plainFind(r row, logical int) (int, int) {
	if logical < 0 || logical > 255 {
		return 0, 0
	}
	n := 1
	for i := logical + 1; i < 256; i++ {
		if r[logical] == 0 && r[i] != 0 || r[logical] != 0 && (r[i] == 0 || r[i] != r[i-1]+1) {
			break
		}
		n++
	}
	return r[logical], n
}

// plainAdd is P13.2's, of a list and an extent that may be.
func plainAdd(r row, x api.Extent) ([]api.Extent, api.Errno) {
	for i := range x.Length {
		if r[x.Logical+i] != 0 {
			return nil, api.EEXIST
		}
		r[x.Logical+i] = x.Physical + i
	}
	return r.list(), api.OK
}

// fixed is a list of so many extents, of one block each, none of which is continued; another one of each turn.
func fixed(n, turn int) []api.Extent {
	var l []api.Extent
	for i := range n {
		l = append(l, api.Extent{Logical: i, Length: 1, Physical: 4095 - 2*i - turn})
	}
	return l
}

// drawnRow is one of any kind: of long extents or short ones, of many holes or none.
func drawnRow(draw *rand.Rand) row {
	var r row
	holes, jumps := draw.Intn(4), draw.Intn(5)
	for i := range 1 + draw.Intn(256) {
		switch {
		case draw.Intn(8) < holes:
		case i > 0 && r[i-1] > 0 && r[i-1] < 4095 && draw.Intn(4) >= jumps:
			r[i] = r[i-1] + 1
		default:
			r[i] = 1 + draw.Intn(4095)
		}
	}
	return r
}

// wrongs are lists that may not be: good ones with one field, or the order, that is wrong.
func wrongs() [][]api.Extent {
	var all [][]api.Extent
	bad := func(l []api.Extent, i int, change func(x *api.Extent)) {
		w := slices.Clone(l)
		change(&w[i])
		all = append(all, w)
	}
	l := []api.Extent{{Logical: 2, Length: 3, Physical: 100}, {Logical: 5, Length: 2, Physical: 200}, {Logical: 9, Length: 1, Physical: 202}, {Logical: 255, Length: 1, Physical: 4095}}
	for i := range l {
		for _, n := range far {
			bad(l, i, func(x *api.Extent) { x.Logical = n })
			bad(l, i, func(x *api.Extent) { x.Length = n })
			bad(l, i, func(x *api.Extent) { x.Physical = n })
		}
		bad(l, i, func(x *api.Extent) { x.Length = 0 })
		bad(l, i, func(x *api.Extent) { x.Length = 257 })
		bad(l, i, func(x *api.Extent) { x.Physical = 0 })
		bad(l, i, func(x *api.Extent) { x.Logical = 256 })
	}
	bad(l, 0, func(x *api.Extent) { x.Length = 4 })                    // it has a block of the next one
	bad(l, 1, func(x *api.Extent) { x.Logical = 4 })                   // likewise
	bad(l, 1, func(x *api.Extent) { x.Physical = 103 })                // it continues the one ahead
	bad(l, 3, func(x *api.Extent) { x.Length, x.Physical = 2, 4 })     // 257 blocks
	bad(l, 3, func(x *api.Extent) { x.Logical, x.Length = 254, 2 })    // a block 4096
	bad(l, 2, func(x *api.Extent) { x.Logical, x.Physical = 7, 202 })  // it continues the one ahead
	bad(l, 2, func(x *api.Extent) { x.Logical, x.Physical = 5, 300 })  // the same block
	bad(l, 2, func(x *api.Extent) { x.Logical, x.Physical = 0, 300 })  // out of order
	bad(l, 0, func(x *api.Extent) { x.Logical, x.Length = 255, 2 })    // out of order, and too far
	bad(l, 0, func(x *api.Extent) { x.Length, x.Logical = 250, 6 })    // it has the others' blocks
	bad(l, 0, func(x *api.Extent) { x.Physical, x.Length = 4095, 2 })  // a block 4096
	bad(l, 0, func(x *api.Extent) { x.Physical, x.Length = -1, 3 })    // none, and then 1
	bad(l, 0, func(x *api.Extent) { x.Logical, x.Length = -1, 2 })     // likewise
	bad(l, 1, func(x *api.Extent) { x.Physical, x.Length = 100, 256 }) // too many
	return append(all, fixed(257, 0), slices.Concat(fixed(3, 0), fixed(3, 0)), []api.Extent{{}}, append(fixed(5, 0), api.Extent{}))
}

// le is numbers of so many bytes each, the least byte first.
func le(b []byte, width int, numbers ...int) []byte {
	for _, n := range numbers {
		b = append(b, binary.LittleEndian.AppendUint64(nil, uint64(n))[:width]...)
	}
	return b
}

// upTo is b with noughts behind it.
func upTo(size int, b []byte) []byte { return append(b, make([]byte, size-len(b))...) }

// seal writes the sum of all ahead into a block's last four bytes, by another way than package wire's.
func seal(b []byte, block int) []byte {
	binary.LittleEndian.PutUint32(b[252:], crc32.Update(uint32(block), crc32.MakeTable(crc32.Castagnoli), b[:252]))
	return b
}

// rootBytes are a root's, whatever it is said to have.
func rootBytes(count, height int, entries []api.Extent) []byte {
	b := []byte{byte(count), byte(height), 0, 0}
	for _, x := range entries {
		b = le(b, 4, x.Logical, x.Length, x.Physical)
	}
	return upTo(48, b)
}

// nodeBytes are those of a node that stands in a block, whatever it is said to have.
func nodeBytes(block, count, height int, entries []api.Extent) []byte {
	b := append(le(nil, 2, count), byte(height), 0)
	for _, x := range entries {
		b = le(b, 4, x.Logical, x.Length, x.Physical)
	}
	return seal(upTo(256, b), block)
}

// plainNeed is how many nodes a list's tree has: there are no more than 13 leaves.
func plainNeed(n int) int {
	leaves := (n + 19) / 20
	switch {
	case n <= 3:
		return 0
	case leaves <= 3:
		return leaves
	}
	return leaves + 1
}

// plainTree is a list's tree, whose nodes stand in these blocks: the root, and each node's bytes.
func plainTree(l []api.Extent, blocks []int) ([]byte, [][]byte) {
	if len(l) <= 3 {
		return rootBytes(len(l), 0, l), nil
	}
	deep := len(l) > 60
	leaves := blocks
	if deep {
		leaves = blocks[1:]
	}
	var nodes [][]byte
	var children []api.Extent
	for i, block := range leaves {
		entries := l[20*i : min(20*i+20, len(l))]
		nodes = append(nodes, nodeBytes(block, len(entries), 0, entries))
		children = append(children, api.Extent{Logical: entries[0].Logical, Physical: block})
	}
	if !deep {
		return rootBytes(len(children), 1, children), nodes
	}
	inner := nodeBytes(blocks[0], len(children), 1, children)
	return rootBytes(1, 2, []api.Extent{{Logical: l[0].Logical, Physical: blocks[0]}}), slices.Insert(nodes, 0, inner)
}

// entriesAt are so many entries, behind four bytes.
func entriesAt(b []byte, count int) []api.Extent {
	var l []api.Extent
	for i := range count {
		at := func(k int) int { return int(binary.LittleEndian.Uint32(b[4+12*i+4*k:])) }
		l = append(l, api.Extent{Logical: at(0), Length: at(1), Physical: at(2)})
	}
	return l
}

// plainRead is P13.3: whether a root is one, of which list, and where its nodes stand.
func plainRead(s *store.Store, root []byte) ([]api.Extent, []int, bool) {
	if len(root) != 48 || root[0] > 3 || root[1] > 2 {
		return nil, nil, false
	}
	l := entriesAt(root, int(root[0]))
	var blocks []int
	var held [][]byte
	for range root[1] {
		var below []api.Extent
		for _, x := range l {
			b, e := s.Read(x.Physical)
			if e != api.OK || slices.Contains(blocks, x.Physical) {
				return nil, nil, false
			}
			count := int(binary.LittleEndian.Uint16(b))
			if count < 1 || count > 20 {
				return nil, nil, false
			}
			blocks, held = append(blocks, x.Physical), append(held, b)
			below = append(below, entriesAt(b, count)...)
		}
		l = below
	}
	if !plainMayBe(l) || len(blocks) != plainNeed(len(l)) {
		return nil, nil, false
	}
	again, nodes := plainTree(l, blocks)
	return l, blocks, bytes.Equal(again, root) && slices.EqualFunc(nodes, held, bytes.Equal)
}
