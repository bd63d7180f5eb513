package layout

import (
	"bytes"
	"math"
	"slices"

	"hayrick/api"
	"hayrick/wire"
)

const (
	ourVersion = 1
	superSeed  = 0
	groupsSeed = 1
	mostMounts = math.MaxInt32
	mostCount  = math.MaxUint16 // of what a group counts
)

// PackSuper is the first block.
func PackSuper(s api.Super) ([]byte, api.Errno) {
	if !superMayBe(s) {
		return nil, api.EINVAL
	}
	g, clean := s.Geometry, 0
	if s.Clean {
		clean = 1
	}
	l := numbers(api.Magic, ourVersion, g.Blocks, g.PerGroup, g.Inodes, g.Journal, s.FreeBlocks, s.FreeInodes, s.Orphan, s.Mounts, clean)
	return block(l, superWidths(), superSeed)
}

// UnpackSuper is what the first block says.
func UnpackSuper(b []byte) (api.Super, api.Errno) {
	l, ok := read(b, superWidths())
	if !ok {
		return api.Super{}, api.EUCLEAN
	}
	var s api.Super
	var magic, version, clean int
	g := &s.Geometry
	tell(l, &magic, &version, &g.Blocks, &g.PerGroup, &g.Inodes, &g.Journal, &s.FreeBlocks, &s.FreeInodes, &s.Orphan, &s.Mounts, &clean)
	s.Clean = clean == 1
	// A wrong mark, version, number, nought or seal: each shows in that what is packed of s is another block.
	if again, e := PackSuper(s); e != api.OK || !bytes.Equal(again, b) {
		return api.Super{}, api.EUCLEAN
	}
	return s, api.OK
}

// PackGroups is the second block.
func PackGroups(l []api.Group) ([]byte, api.Errno) {
	if !within(1, api.MaxGroups, len(l)) {
		return nil, api.EINVAL
	}
	var all []uint64
	for _, x := range l {
		if !within(0, mostCount, x.FreeBlocks, x.FreeInodes, x.Dirs) {
			return nil, api.EINVAL
		}
		all = append(all, numbers(x.FreeBlocks, x.FreeInodes, x.Dirs)...)
	}
	return block(all, groupsWidths(len(l)), groupsSeed)
}

// UnpackGroups is what the second block says.
func UnpackGroups(b []byte, n int) ([]api.Group, api.Errno) {
	if !within(1, api.MaxGroups, n) {
		return nil, api.EINVAL
	}
	all, ok := read(b, groupsWidths(n))
	if !ok {
		return nil, api.EUCLEAN
	}
	var l []api.Group
	for fields := range slices.Chunk(all, len(groupWidths())) {
		var x api.Group
		tell(fields, &x.FreeBlocks, &x.FreeInodes, &x.Dirs)
		l = append(l, x)
	}
	if again, e := PackGroups(l); e != api.OK || !bytes.Equal(again, b) {
		return nil, api.EUCLEAN
	}
	return l, api.OK
}

func superMayBe(s api.Super) bool {
	g := s.Geometry
	return mayBe(g) &&
		within(0, g.Blocks-Fixed(g), s.FreeBlocks) &&
		within(0, inodes(g), s.FreeInodes, s.Orphan) &&
		within(0, mostMounts, s.Mounts)
}

// superWidths are those of the magic number, the version, the geometry's four numbers, FreeBlocks, FreeInodes, Orphan, Mounts and Clean.
func superWidths() []int { return []int{4, 2, 4, 4, 4, 4, 4, 4, 4, 4, 1} }

// groupWidths are those of FreeBlocks, FreeInodes and Dirs.
func groupWidths() []int { return []int{4, 4, 4} }

func groupsWidths(n int) []int { return slices.Repeat(groupWidths(), n) }

// block is numbers in their widths, noughts behind them, sealed.
func block(l []uint64, widths []int, seed uint32) ([]byte, api.Errno) {
	b, e := wire.Pack(l, widths, api.BlockSize)
	if e != api.OK {
		return nil, e
	}
	if e := wire.Seal(b, seed); e != api.OK {
		return nil, e
	}
	return b, api.OK
}

// read is the numbers with which a block begins, each in its width; nothing and false of bytes that are no block.
func read(b []byte, widths []int) ([]uint64, bool) {
	if len(b) != api.BlockSize {
		return nil, false
	}
	size := 0
	for _, n := range widths {
		size += n
	}
	l, e := wire.Unpack(b[:size], widths)
	return l, e == api.OK
}

// numbers are fields as wire packs them.
func numbers(fields ...int) []uint64 {
	l := make([]uint64, len(fields))
	for i, x := range fields {
		l[i] = uint64(x)
	}
	return l
}

// tell writes the numbers that wire unpacked into fields, in order.
func tell(l []uint64, fields ...*int) {
	for i, at := range fields {
		*at = int(l[i])
	}
}
