package layout_test

import (
	"math"
	"testing"

	"hayrick/api"
	"hayrick/layout"
)

var someNumbers = []int{math.MinInt, math.MinInt + 1, math.MinInt32, -1 << 32, -513, -2, -1, 0, 1, 2, 13, 14, 15, 33, 512, 7169, 1 << 31, 1 << 32, 1<<32 + 1, math.MaxInt - 1, math.MaxInt}

// P4.1: a geometry at each edge, and those that may not be beside it.
func TestCheck(t *testing.T) {
	may, not := 0, 0
	for _, g := range edges() {
		want := api.EINVAL
		if plainMayBe(g) {
			want = api.OK
			may++
		} else {
			not++
		}
		if e := layout.Check(g); e != want {
			t.Errorf("Check(%v): %d, want %d", g, e, want)
		}
	}
	if may < 1000 || not < 1000 {
		t.Errorf("%d that may be, %d that may not", may, not)
	}
}

// P4.1: the edges one by one, by their numbers as the chapter tells them.
func TestCheckEdges(t *testing.T) {
	for _, c := range []struct {
		blocks, perGroup, inodes, journal int
		may                               bool
	}{
		{300, 200, 16, 96, true},
		{300, 109, 16, 96, true}, // the first group needs 109; the last one has 82
		{300, 108, 16, 96, false},
		{128, 128, 8, 96, true},
		{127, 128, 8, 96, false},
		{128, 2016, 8, 96, true},
		{128, 2017, 8, 96, false},
		{128, 105, 8, 96, true}, // the first group needs 105
		{128, 104, 8, 96, false},
		{4096, 2016, 512, 512, false}, // the last group has 64
		{4032, 2016, 512, 512, true},
		{4096, 2016, 122, 512, true}, // it needs 64
		{4096, 2016, 124, 512, false},
		{4097, 2016, 64, 512, false},
		{4096, 1024, 64, 513, false},
		{4096, 1024, 64, 95, false},
		{4096, 1024, 65, 96, false},
		{4096, 1024, 6, 96, false},
		{4096, 1024, 514, 96, false},
		{4096, 773, 512, 512, false}, // the last group has 231, and needs 259
		{3865, 773, 512, 512, true},
		{3864, 772, 512, 512, false}, // the first group has 772, and needs 773
		{1400, 105, 8, 96, true},     // 14 groups, the last one of 35
		{1470, 105, 8, 96, true},
		{1471, 105, 8, 96, false}, // 15 groups
		{1575, 105, 8, 96, false},
		{317, 105, 10, 96, false}, // the first group needs 106
		{219, 106, 10, 96, false}, // the last group has 7, and needs 8
		{220, 106, 10, 96, true},
		{128, 31, 8, 96, false},
		{128, 32, 8, 96, false}, // the first group lacks room for the journal
		{0, 0, 0, 0, false},
	} {
		g := api.Geometry{Blocks: c.blocks, PerGroup: c.perGroup, Inodes: c.inodes, Journal: c.journal}
		want := api.EINVAL
		if c.may {
			want = api.OK
		}
		if e := layout.Check(g); e != want {
			t.Errorf("Check(%v): %d, want %d", g, e, want)
		}
		if plainMayBe(g) != c.may {
			t.Errorf("the tests' own word of %v is another one", g)
		}
	}
}

// P4.1: of a geometry that may not be nothing is told, whatever else is asked for.
func TestMayNotBe(t *testing.T) {
	for _, g := range edges() {
		if plainMayBe(g) {
			continue
		}
		if n := layout.Groups(g); n != 0 {
			t.Errorf("Groups(%v): %d", g, n)
		}
		if n := layout.Fixed(g); n != 0 {
			t.Errorf("Fixed(%v): %d", g, n)
		}
		for _, n := range []int{math.MinInt, -1, 0, 1, 2, math.MaxInt} {
			noGroup(t, g, n)
			noInode(t, g, n)
		}
		if b, e := layout.PackSuper(api.Super{Geometry: g}); b != nil || e != api.EINVAL {
			t.Errorf("PackSuper of %v: %x %d", g, b, e)
		}
	}
}

func noGroup(t *testing.T, g api.Geometry, group int) {
	t.Helper()
	if first, end, e := layout.Span(g, group); first != 0 || end != 0 || e != api.EINVAL {
		t.Errorf("Span(%v, %d): %d %d %d", g, group, first, end, e)
	}
	if a, b, c, d, e := layout.Place(g, group); a != 0 || b != 0 || c != 0 || d != 0 || e != api.EINVAL {
		t.Errorf("Place(%v, %d): %d %d %d %d %d", g, group, a, b, c, d, e)
	}
}

func noInode(t *testing.T, g api.Geometry, ino int) {
	t.Helper()
	if block, at, e := layout.InodeAt(g, ino); block != 0 || at != 0 || e != api.EINVAL {
		t.Errorf("InodeAt(%v, %d): %d %d %d", g, ino, block, at, e)
	}
}

// P4.2: the chapter's own examples, and others by their numbers.
func TestExamples(t *testing.T) {
	if n, m := layout.Groups(small), layout.Fixed(small); n != 2 || m != 118 {
		t.Errorf("Groups, Fixed: %d %d", n, m)
	}
	for group, want := range [][2]int{{0, 200}, {200, 300}} {
		if first, end, e := layout.Span(small, group); first != want[0] || end != want[1] || e != api.OK {
			t.Errorf("Span(%d): %d %d %d", group, first, end, e)
		}
	}
	for group, want := range [][4]int{{98, 99, 100, 108}, {200, 201, 202, 210}} {
		if a, b, c, d, e := layout.Place(small, group); [4]int{a, b, c, d} != want || e != api.OK {
			t.Errorf("Place(%d): %d %d %d %d %d", group, a, b, c, d, e)
		}
	}
	for ino, want := range map[int][2]int{1: {100, 0}, 2: {100, 128}, 3: {101, 0}, 15: {107, 0}, 16: {107, 128}, 17: {202, 0}, 18: {202, 128}, 19: {203, 0}, 32: {209, 128}} {
		if block, at, e := layout.InodeAt(small, ino); block != want[0] || at != want[1] || e != api.OK {
			t.Errorf("InodeAt(%d): %d %d %d", ino, block, at, e)
		}
	}
	noInode(t, small, 0)
	noInode(t, small, 33)
	noGroup(t, small, -1)
	noGroup(t, small, 2)
	tight := small
	tight.PerGroup = 108
	if e := layout.Check(tight); e != api.EINVAL {
		t.Errorf("Check(%v): %d", tight, e)
	}
}

// P4.2, P4.5: every block of a disk is what a plain one has there; groups' spans are laid end to end and have all blocks.
func TestPlainDisk(t *testing.T) {
	for _, g := range standing() {
		want, got := plainDisk(g), make([]int, g.Blocks)
		got[0], got[1] = isHead, isHead
		at, fixed := 0, 0
		for group := range layout.Groups(g) {
			first, end, e := layout.Span(g, group)
			if e != api.OK || first != at || end <= first || end > g.Blocks || end-first > g.PerGroup {
				t.Fatalf("Span(%v, %d): %d %d %d behind %d", g, group, first, end, e, at)
			}
			blocks, inodes, table, data, e := layout.Place(g, group)
			if e != api.OK || blocks < first || inodes <= blocks || table <= inodes || data <= table || data >= end {
				t.Fatalf("Place(%v, %d): %d %d %d %d %d in %d %d", g, group, blocks, inodes, table, data, e, first, end)
			}
			for i := max(first, 2); i < blocks; i++ {
				got[i] = isJournal
			}
			got[blocks], got[inodes] = isBlocks, isInodes
			for i := table; i < data; i++ {
				got[i] = isTable
			}
			at = end
		}
		if at != g.Blocks {
			t.Fatalf("%v: spans end at %d", g, at)
		}
		for i := range want {
			if got[i] != want[i] {
				t.Fatalf("%v: block %d is %d, want %d", g, i, got[i], want[i])
			}
			if want[i] != isData {
				fixed++
			}
		}
		if n := layout.Fixed(g); n != fixed {
			t.Fatalf("Fixed(%v): %d, want %d", g, n, fixed)
		}
		if n := layout.Groups(g); n != len(starts(g)) {
			t.Fatalf("Groups(%v): %d", g, n)
		}
	}
}

// P4.2, P4.5: inodes fill the tables in their order, two a block: no two stand at one place, none in data.
func TestPlainInodes(t *testing.T) {
	for i, g := range standing() {
		if i%3 > 0 && g != small {
			continue
		}
		ino := 0
		for block, kind := range plainDisk(g) {
			for at := 0; at < 256 && kind == isTable; at += 128 {
				ino++
				if b, a, e := layout.InodeAt(g, ino); b != block || a != at || e != api.OK {
					t.Fatalf("InodeAt(%v, %d): %d %d %d, want %d %d", g, ino, b, a, e, block, at)
				}
			}
		}
		if ino != g.Inodes*layout.Groups(g) {
			t.Fatalf("%v: %d inodes", g, ino)
		}
		for _, x := range []int{math.MinInt, -g.Inodes, -1, 0, ino + 1, ino + 2, ino + g.Inodes, 1<<32 + 1, math.MaxInt} {
			noInode(t, g, x)
		}
	}
}

// P4.2: there is no such group.
func TestNoGroup(t *testing.T) {
	for _, g := range standing() {
		n := layout.Groups(g)
		for _, x := range []int{math.MinInt, -n, -1, n, n + 1, 1 << 32, math.MaxInt} {
			noGroup(t, g, x)
		}
	}
}

// P1: no call panics, whatever it is given, and each answers the same again.
func TestNoPanic(t *testing.T) {
	all := append(edges()[:300:300], small)
	for _, g := range all {
		for _, n := range someNumbers {
			first, end, e := layout.Span(g, n)
			if again, last, f := layout.Span(g, n); again != first || last != end || f != e {
				t.Errorf("Span(%v, %d) again", g, n)
			}
			layout.Place(g, n)
			layout.InodeAt(g, n)
			layout.PackSuper(api.Super{Geometry: g, FreeBlocks: n, FreeInodes: n, Orphan: n, Mounts: n})
			layout.PackGroups([]api.Group{{FreeBlocks: n, FreeInodes: n, Dirs: n}})
			layout.UnpackGroups(nil, n)
			layout.UnpackGroups(make([]byte, 256), n)
		}
	}
}
