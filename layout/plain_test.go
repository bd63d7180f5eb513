package layout_test

import (
	"math"

	"hayrick/api"
)

// small is the chapter's own geometry: two groups.
var small = api.Geometry{Blocks: 300, PerGroup: 200, Inodes: 16, Journal: 96}

// edges are geometries at and about the edges that the chapter names, and far from them: such that may be and such that may not.
func edges() []api.Geometry {
	var out []api.Geometry
	far := []int{math.MinInt, math.MinInt + 1, math.MinInt32, -1 << 32, -2, -1, 0, 1, 2, 1 << 31, 1 << 32, 1<<32 + 200, math.MaxInt - 1, math.MaxInt}
	for _, g := range []api.Geometry{small, {Blocks: 4096, PerGroup: 2016, Inodes: 512, Journal: 512}, {Blocks: 128, PerGroup: 128, Inodes: 8, Journal: 96}} {
		for _, x := range far {
			a, b, c, d := g, g, g, g
			a.Blocks, b.PerGroup, c.Inodes, d.Journal = x, x, x, x
			out = append(out, a, b, c, d, api.Geometry{Blocks: x, PerGroup: x, Inodes: x, Journal: x})
		}
	}
	for _, blocks := range []int{127, 128, 129, 200, 300, 1799, 1800, 2016, 2017, 4095, 4096, 4097} {
		for _, inodes := range []int{6, 7, 8, 9, 10, 16, 63, 64, 510, 511, 512, 513, 514} {
			for _, journal := range []int{95, 96, 97, 300, 511, 512, 513} {
				need := 5 + journal + inodes/2
				for _, perGroup := range []int{31, 32, 33, 108, 109, 110, 200, 2015, 2016, 2017, need - 1, need, need + 1, (blocks + 13) / 14, (blocks+13)/14 - 1} {
					out = append(out, api.Geometry{Blocks: blocks, PerGroup: perGroup, Inodes: inodes, Journal: journal})
				}
				// So many blocks that the last group has one too few, just enough, one more.
				for _, groups := range []int{1, 2, 13, 14} {
					for last := 2 + inodes/2; last <= 4+inodes/2; last++ {
						out = append(out, api.Geometry{Blocks: groups*(need+3) + last, PerGroup: need + 3, Inodes: inodes, Journal: journal})
					}
				}
			}
		}
	}
	return out
}

// starts are the first blocks of the groups of a geometry whose numbers are within their limits.
func starts(g api.Geometry) []int {
	var l []int
	for at := 0; at < g.Blocks; at += g.PerGroup {
		l = append(l, at)
	}
	return l
}

// plainMayBe is the chapter's word, part by part.
func plainMayBe(g api.Geometry) bool {
	if g.Blocks < 128 || g.Blocks > 4096 || g.PerGroup < 32 || g.PerGroup > 2016 {
		return false
	}
	if g.Inodes < 8 || g.Inodes > 512 || g.Inodes%2 == 1 || g.Journal < 96 || g.Journal > 512 {
		return false
	}
	l := append(starts(g), g.Blocks)
	groups := len(l) - 1
	if groups > 14 {
		return false
	}
	first, last := l[1]-l[0], l[groups]-l[groups-1]
	return first >= 5+g.Journal+g.Inodes/2 && last >= 3+g.Inodes/2
}

// The kinds of blocks of a plain disk.
const (
	isData = iota
	isHead
	isJournal
	isBlocks
	isInodes
	isTable
)

// plainDisk tells of each block what it is, laid block by block as the chapter says.
func plainDisk(g api.Geometry) []int {
	kinds := make([]int, g.Blocks)
	kinds[0], kinds[1] = isHead, isHead
	for i := range g.Journal {
		kinds[2+i] = isJournal
	}
	for _, at := range starts(g) {
		if at == 0 {
			at = 2 + g.Journal
		}
		kinds[at], kinds[at+1] = isBlocks, isInodes
		for i := range g.Inodes / 2 {
			kinds[at+2+i] = isTable
		}
	}
	return kinds
}

// standing are the geometries of edges that may be.
func standing() []api.Geometry {
	var out []api.Geometry
	for _, g := range edges() {
		if plainMayBe(g) {
			out = append(out, g)
		}
	}
	return out
}
