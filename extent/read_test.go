package extent_test

import (
	"bytes"
	"math/rand"
	"slices"
	"testing"

	"hayrick/api"
	"hayrick/disk"
	"hayrick/extent"
	"hayrick/store"
)

// laid lets a list's tree stand in blocks: its root.
func laid(t *testing.T, s *store.Store, l []api.Extent, blocks []int) []byte {
	t.Helper()
	root, nodes := plainTree(l, blocks)
	for i, b := range nodes {
		if e := s.Write(blocks[i], b); e != api.OK {
			t.Fatalf("Write(%d, ..): %d", blocks[i], e)
		}
	}
	return root
}

// P13.3: the root of no extents is noughts, and new memory.
func TestEmpty(t *testing.T) {
	b := extent.Empty()
	if !bytes.Equal(b, make([]byte, 48)) {
		t.Errorf("%x", b)
	}
	b[0] = 9
	if c := extent.Empty(); !bytes.Equal(c, make([]byte, 48)) {
		t.Errorf("%x", c)
	}
	reads(t, made(t, example), extent.Empty(), nil, nil, api.OK)
}

// P13.3: a tree by its bytes.
func TestBytes(t *testing.T) {
	s := made(t, example)
	root := make([]byte, 48)
	copy(root, []byte{3, 0, 0, 0, 0, 0, 0, 0, 1, 0, 0, 0, 0xE8, 3, 0, 0, 1, 0, 0, 0, 2, 0, 0, 0, 9, 0, 0, 0, 254, 0, 0, 0, 2, 0, 0, 0, 0xFE, 0xF, 0, 0})
	reads(t, s, root, of(0, 1, 1000, 1, 2, 9, 254, 2, 4094), nil, api.OK)
	root = make([]byte, 48)
	copy(root, []byte{1, 1, 0, 0, 1, 0, 0, 0, 0, 0, 0, 0, 0x1A, 1, 0, 0})
	leaf := make([]byte, 256)
	copy(leaf, []byte{4, 0, 0, 0, 1, 0, 0, 0, 1, 0, 0, 0, 7, 0, 0, 0, 3, 0, 0, 0, 1, 0, 0, 0, 8, 0, 0, 0, 5, 0, 0, 0, 1, 0, 0, 0, 9, 0, 0, 0, 7, 0, 0, 0, 249, 0, 0, 0, 10, 0, 0, 0})
	s.Write(282, seal(leaf, 282))
	reads(t, s, root, of(1, 1, 7, 3, 1, 8, 5, 1, 9, 7, 249, 10), []int{282}, api.OK)
}

// P13.3: trees of all sizes, wherever their nodes stand, are read.
func TestRead(t *testing.T) {
	draw := rand.New(rand.NewSource(11))
	for _, g := range []api.Geometry{example, wide} {
		s := made(t, g)
		for n := range 257 {
			blocks := draw.Perm(g.Blocks)[:plainNeed(n)]
			reads(t, s, laid(t, s, fixed(n, 1), blocks), fixed(n, 1), blocks, api.OK)
		}
		for range 300 {
			l := drawnRow(draw).list()
			blocks := draw.Perm(g.Blocks)[:plainNeed(len(l))]
			reads(t, s, laid(t, s, l, blocks), l, blocks, api.OK)
		}
	}
}

// P13.3: what is answered is new memory, and both lists are two.
func TestReadShared(t *testing.T) {
	s := made(t, example)
	for _, n := range sizes {
		blocks := rand.New(rand.NewSource(12)).Perm(300)[:plainNeed(n)]
		root := laid(t, s, fixed(n, 0), blocks)
		l, nodes, _ := extent.Read(s, root)
		for i := range l {
			l[i] = api.Extent{Logical: 9, Length: 9, Physical: 9}
		}
		for i := range nodes {
			nodes[i] = 9
		}
		reads(t, s, root, fixed(n, 0), blocks, api.OK)
	}
}

// P13.3: a root of another length is none.
func TestRootLength(t *testing.T) {
	s := made(t, example)
	root := laid(t, s, fixed(40, 0), []int{150, 151})
	for _, n := range []int{0, 1, 2, 3, 4, 16, 28, 40, 47} {
		unclean(t, s, root[:n])
		unclean(t, s, make([]byte, n))
	}
	for _, n := range []int{49, 60, 256, 4096} {
		unclean(t, s, upTo(n, bytes.Clone(root)))
		unclean(t, s, make([]byte, n))
	}
	unclean(t, s, nil)
}

// P13.3: no bit of a root may be turned, unless that is the root of another tree; no bit of a node may be, be it sealed again, unless that makes a node of another tree.
func TestTurned(t *testing.T) {
	s := made(t, example)
	others := 0
	asks := func(root []byte) {
		t.Helper()
		l, blocks, ok := plainRead(s, root)
		if !ok {
			reads(t, s, root, nil, nil, api.EUCLEAN)
			return
		}
		others++
		reads(t, s, root, l, blocks, api.OK)
	}
	for _, n := range []int{0, 1, 3, 4, 21, 61} {
		blocks := rand.New(rand.NewSource(int64(n))).Perm(300)[:plainNeed(n)]
		l := fixed(n, 0)
		root := laid(t, s, l, blocks)
		for i := range 8 * 48 {
			b := bytes.Clone(root)
			b[i/8] ^= 1 << (i % 8)
			asks(b)
		}
		for _, block := range blocks {
			good, _ := s.Read(block)
			for i := range 8 * 256 {
				b := bytes.Clone(good)
				b[i/8] ^= 1 << (i % 8)
				s.Write(block, b)
				reads(t, s, root, nil, nil, api.EUCLEAN)
				s.Write(block, seal(b, block))
				asks(root)
			}
			s.Write(block, good)
		}
		reads(t, s, root, l, blocks, api.OK)
	}
	if others < 1000 {
		t.Errorf("only %d were other trees", others)
	}
}

// P13.3: a node stands in its own block: what another one holds is none, nor what none does.
func TestElsewhere(t *testing.T) {
	s := made(t, example)
	l := fixed(61, 0)
	blocks := []int{150, 160, 170, 180, 190}
	root := laid(t, s, l, blocks)
	for i, block := range blocks {
		good, _ := s.Read(block)
		for _, b := range [][]byte{make([]byte, 256), seal(bytes.Clone(good), block+1), seal(bytes.Clone(good), 0), seal(make([]byte, 256), block)} {
			s.Write(block, b)
			unclean(t, s, root)
		}
		other, _ := s.Read(blocks[(i+1)%5])
		s.Write(block, other)
		unclean(t, s, root)
		s.Write(block, good)
	}
	reads(t, s, root, l, blocks, api.OK)
	// Of fewer than four extents a tree has no nodes, of more it has some.
	for _, block := range []int{0, 1, 96, 149, 300, 301, 4095, 4096, 1<<31 - 1, 1 << 31, 1<<32 - 1} {
		unclean(t, s, rootBytes(1, 1, of(0, 0, block)))
	}
}

// shape is a tree as one might lay it: its root, and its nodes' bytes.
type shape struct {
	name  string
	root  []byte
	nodes map[int][]byte
}

// shapes are trees that are sealed well, but that are no list's.
func shapes() []shape {
	l := fixed(81, 0)
	leaf := func(block, from, to int) []byte { return nodeBytes(block, to-from, 0, l[from:to]) }
	child := func(from, block int) api.Extent { return api.Extent{Logical: from, Physical: block} }
	four := []api.Extent{child(0, 151), child(20, 152), child(40, 153), child(60, 154)}
	inner := nodeBytes(150, 4, 1, four)
	all := map[int][]byte{150: inner, 151: leaf(151, 0, 20), 152: leaf(152, 20, 40), 153: leaf(153, 40, 60), 154: leaf(154, 60, 80)}
	with := func(block int, b []byte) map[int][]byte {
		m := map[int][]byte{}
		for k, v := range all {
			m[k] = v
		}
		m[block] = b
		return m
	}
	return []shape{
		{"noughts of height 1", rootBytes(0, 1, nil), nil},
		{"noughts of height 255", rootBytes(0, 255, nil), nil},
		{"three extents in a leaf", rootBytes(1, 1, []api.Extent{child(0, 150)}), map[int][]byte{150: leaf(150, 0, 3)}},
		{"one extent in a leaf", rootBytes(1, 1, []api.Extent{child(0, 150)}), map[int][]byte{150: leaf(150, 0, 1)}},
		{"a leaf without entries", rootBytes(1, 1, []api.Extent{child(0, 150)}), map[int][]byte{150: nodeBytes(150, 0, 0, nil)}},
		{"a first leaf of 19", rootBytes(2, 1, []api.Extent{child(0, 151), child(19, 152)}), map[int][]byte{151: leaf(151, 0, 19), 152: leaf(152, 19, 39)}},
		{"two leaves of 10", rootBytes(2, 1, []api.Extent{child(0, 151), child(10, 152)}), map[int][]byte{151: leaf(151, 0, 10), 152: leaf(152, 10, 20)}},
		{"a leaf of 21", rootBytes(1, 1, []api.Extent{child(0, 151)}), map[int][]byte{151: nodeBytes(151, 21, 0, l[:20])}},
		{"an empty last leaf", rootBytes(2, 1, []api.Extent{child(0, 151), child(20, 152)}), map[int][]byte{151: leaf(151, 0, 20), 152: nodeBytes(152, 0, 0, nil)}},
		{"one inner node over three leaves", rootBytes(1, 2, []api.Extent{child(0, 150)}), with(150, nodeBytes(150, 3, 1, four[:3]))},
		{"an inner node over one", rootBytes(1, 3, []api.Extent{child(0, 155)}), with(155, nodeBytes(155, 1, 2, []api.Extent{child(0, 150)}))},
		{"two inner nodes", rootBytes(2, 2, []api.Extent{child(0, 150), child(40, 155)}), map[int][]byte{
			150: nodeBytes(150, 2, 1, four[:2]), 155: nodeBytes(155, 2, 1, four[2:]), 151: all[151], 152: all[152], 153: all[153], 154: all[154]}},
		{"leaves of another height", rootBytes(1, 2, []api.Extent{child(0, 150)}), with(152, nodeBytes(152, 20, 1, l[20:40]))},
		{"an inner node of height 0", rootBytes(1, 2, []api.Extent{child(0, 150)}), with(150, nodeBytes(150, 4, 0, four))},
		{"an inner node of height 2", rootBytes(1, 2, []api.Extent{child(0, 150)}), with(150, nodeBytes(150, 4, 2, four))},
		{"a root of height 1 over an inner node", rootBytes(1, 1, []api.Extent{child(0, 150)}), all},
		{"a root of height 3 over it", rootBytes(1, 3, []api.Extent{child(0, 150)}), all},
		{"a root with another Logical", rootBytes(1, 2, []api.Extent{child(1, 150)}), all},
		{"an inner node with another Logical", rootBytes(1, 2, []api.Extent{child(0, 150)}), with(150, nodeBytes(150, 4, 1, []api.Extent{four[0], child(21, 152), four[2], four[3]}))},
		{"a child of a Length", rootBytes(1, 2, []api.Extent{{Logical: 0, Length: 1, Physical: 150}}), all},
		{"a leaf named twice", rootBytes(1, 2, []api.Extent{child(0, 150)}), with(150, nodeBytes(150, 4, 1, []api.Extent{four[0], four[1], child(20, 152), four[3]}))},
		{"leaves out of order", rootBytes(1, 2, []api.Extent{child(0, 150)}), with(150, nodeBytes(150, 4, 1, []api.Extent{four[0], four[2], four[1], four[3]}))},
		{"a node that names itself", rootBytes(1, 2, []api.Extent{child(0, 150)}), with(150, nodeBytes(150, 4, 1, []api.Extent{four[0], four[1], four[2], child(60, 150)}))},
		{"many names of one's own", rootBytes(3, 255, []api.Extent{child(0, 150), child(1, 150), child(2, 150)}), map[int][]byte{150: nodeBytes(150, 20, 254, slices.Repeat([]api.Extent{child(0, 150)}, 20))}},
		{"a ring", rootBytes(1, 255, []api.Extent{child(0, 150)}), map[int][]byte{150: nodeBytes(150, 1, 254, []api.Extent{child(0, 151)}), 151: nodeBytes(151, 1, 253, []api.Extent{child(0, 150)})}},
		{"a root of four", rootBytes(4, 0, of(0, 1, 9, 1, 1, 7, 2, 1, 5)), nil},
		{"a root of 255", rootBytes(255, 0, of(0, 1, 9, 1, 1, 7, 2, 1, 5)), nil},
		{"a root of two and one", rootBytes(2, 0, of(0, 1, 9, 1, 1, 7, 2, 1, 5)), nil},
		{"a leaf of four and one", rootBytes(1, 1, []api.Extent{child(0, 150)}), map[int][]byte{150: nodeBytes(150, 4, 0, l[:5])}},
		{"a leaf of 65535", rootBytes(1, 1, []api.Extent{child(0, 150)}), map[int][]byte{150: nodeBytes(150, 65535, 0, l[:20])}},
	}
}

// P13.3: EUCLEAN of what is no list's tree, though all is sealed.
func TestShapes(t *testing.T) {
	s := made(t, example)
	for _, x := range shapes() {
		mark := s.Mark()
		for block, b := range x.nodes {
			s.Write(block, b)
		}
		if _, _, ok := plainRead(s, x.root); ok {
			t.Fatalf("%s: the draft takes it", x.name)
		}
		t.Log(x.name)
		unclean(t, s, x.root)
		s.Back(mark)
	}
}

// P13.3: EUCLEAN of the tree of a list that may not be, wherever in it that shows.
func TestWrongInTree(t *testing.T) {
	s := made(t, example)
	tooWide := func(x api.Extent) bool {
		return min(x.Logical, x.Length, x.Physical) < 0 || max(x.Logical, x.Length, x.Physical) >= 1<<32
	}
	asked := 0
	for _, l := range wrongs() {
		if len(l) > 256 || slices.ContainsFunc(l, tooWide) {
			continue
		}
		asked++
		blocks := []int{150, 151, 152, 153, 154, 155, 156, 157, 158, 159, 160, 161, 162, 163}[:plainNeed(len(l))]
		unclean(t, s, laid(t, s, l, blocks))
		for _, x := range l {
			if !aloneMayBe(x) {
				unclean(t, s, rootBytes(1, 0, []api.Extent{x}))
			}
		}
	}
	if asked < 60 {
		t.Errorf("only %d were asked", asked)
	}
	// What may not be stands in two leaves.
	for _, n := range []int{20, 40, 60, 80, 100} {
		blocks := []int{150, 151, 152, 153, 154, 155, 156}[:plainNeed(n+1)]
		for _, change := range []func(l []api.Extent){
			func(l []api.Extent) { l[n].Physical = l[n-1].Physical + 1 },
			func(l []api.Extent) { l[n].Logical-- },
			func(l []api.Extent) { l[n-1].Length++ },
			func(l []api.Extent) { l[n], l[n-1] = l[n-1], l[n] },
		} {
			l := fixed(n+1, 0)
			change(l)
			unclean(t, s, laid(t, s, l, blocks))
		}
	}
}

// P13.3: drawn changes of a tree, which is sealed again, make it none, or another one.
func TestDrawnTrees(t *testing.T) {
	s := made(t, example)
	draw := rand.New(rand.NewSource(13))
	codes := map[bool]int{}
	for range 6000 {
		mark := s.Mark()
		l := fixed(sizes[draw.Intn(len(sizes))], 0)
		blocks := draw.Perm(300)[:plainNeed(len(l))]
		root := laid(t, s, l, blocks)
		for range 1 + draw.Intn(2) {
			at, to := draw.Intn(13), []int{0, 1, 2, 3, 4, 19, 20, 21, draw.Intn(256)}[draw.Intn(9)]
			if len(blocks) == 0 || draw.Intn(3) == 0 {
				root[[]int{0, 1, 2, 4 * at % 48}[draw.Intn(4)]] = byte(to)
				continue
			}
			block := blocks[draw.Intn(len(blocks))]
			b, _ := s.Read(block)
			b[[]int{0, 1, 2, 3, 4 + 4*draw.Intn(62)}[draw.Intn(5)]] = byte(to)
			s.Write(block, seal(b, block))
		}
		want, nodes, ok := plainRead(s, root)
		codes[ok]++
		if ok {
			reads(t, s, root, want, nodes, api.OK)
		} else {
			reads(t, s, root, nil, nil, api.EUCLEAN)
		}
		s.Back(mark)
	}
	if codes[true] < 300 || codes[false] < 300 {
		t.Errorf("the draw asks too little: %v", codes)
	}
}

// R1: roots and disks of any bytes are read, or refused, whatever they are.
func TestAnyBytes(t *testing.T) {
	draw := rand.New(rand.NewSource(14))
	d, _ := disk.New(300)
	s, _ := store.New(d, 1, 1)
	for n := range 300 {
		b := make([]byte, 256)
		draw.Read(b)
		for i := 4; i < 248; i += 12 {
			copy(b[i:], le(nil, 4, i/12, 0, draw.Intn(300)))
		}
		copy(b, []byte{20, 0, byte(draw.Intn(3)), 0})
		s.Write(n, seal(b, n))
	}
	for i := range 3000 {
		root := make([]byte, 48)
		draw.Read(root)
		if i%2 == 0 {
			root = rootBytes(1+draw.Intn(3), draw.Intn(256), of(0, 0, draw.Intn(300), 1, 0, draw.Intn(300), 2, 0, draw.Intn(300)))
		}
		if _, _, ok := plainRead(s, root); !ok {
			reads(t, s, root, nil, nil, api.EUCLEAN)
		}
	}
}

// R1: stores that are nil or that no New has made have no blocks, but a root of its own extents needs none.
func TestNoStore(t *testing.T) {
	for _, s := range []*store.Store{nil, {}} {
		reads(t, s, extent.Empty(), nil, nil, api.OK)
		root := rootBytes(3, 0, of(0, 1, 9, 1, 1, 7, 2, 1, 5))
		reads(t, s, root, of(0, 1, 9, 1, 1, 7, 2, 1, 5), nil, api.OK)
		writes(t, s, root, of(0, 256, 1), 7, rootBytes(1, 0, of(0, 256, 1)), 0, api.OK)
		writes(t, s, root, fixed(4, 0), 7, nil, 0, api.EUCLEAN)
		writes(t, s, root, fixed(257, 0), 7, nil, 0, api.EINVAL)
		writes(t, s, nil, fixed(257, 0), 7, nil, 0, api.EINVAL)
		unclean(t, s, rootBytes(1, 1, of(0, 0, 0)))
		unclean(t, s, nil)
	}
}
