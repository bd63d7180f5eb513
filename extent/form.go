package extent

import (
	"slices"

	"hayrick/api"
	"hayrick/wire"
)

const (
	mostOfRoot = 3  // entries
	mostOfNode = 20 // entries
	headSize   = 4  // bytes ahead of the entries
	entrySize  = 12
)

// form is how the entries of a root or of a node are laid. An entry is told as an extent: in a leaf it is that; of a child it has its first Logical, no Length, and its block as Physical.
type form struct {
	head []int // the widths of what stands ahead: how many entries there are, the height, noughts
	most int   // entries
	size int   // bytes, in all
}

func rootForm() form { return form{[]int{1, 1, 2}, mostOfRoot, api.RootSize} }

func nodeForm() form { return form{[]int{2, 1, 1}, mostOfNode, api.BlockSize} }

// entryWidths are those of Logical, Length and Physical.
func entryWidths() []int { return []int{4, 4, 4} }

// widths are those of all numbers, where there are so many entries.
func (f form) widths(entries int) []int {
	return slices.Concat(f.head, slices.Repeat(entryWidths(), entries))
}

// pack is the bytes of a height and of entries that may be, without a seal.
func (f form) pack(height int, entries []api.Extent) []byte {
	numbers := []uint64{uint64(len(entries)), uint64(height), 0}
	for _, x := range entries {
		numbers = append(numbers, uint64(x.Logical), uint64(x.Length), uint64(x.Physical))
	}
	b, e := wire.Pack(numbers, f.widths(len(entries)), f.size)
	must(e)
	return b
}

// unpack is the height and the entries that bytes tell, be they right or not; given up, if they can't tell any.
func (f form) unpack(b []byte) (int, []api.Extent) {
	mustBe(len(b) == f.size)
	count, e := wire.Get(b, 0, f.head[0])
	must(e)
	mustBe(count <= uint64(f.most))
	n := int(count)
	numbers, e := wire.Unpack(b[:headSize+n*entrySize], f.widths(n))
	must(e)
	var entries []api.Extent
	for _, x := range part(numbers[len(f.head):], len(entryWidths())) {
		entries = append(entries, api.Extent{Logical: int(x[0]), Length: int(x[1]), Physical: int(x[2])})
	}
	return int(numbers[1]), entries
}
