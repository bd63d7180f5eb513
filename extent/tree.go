package extent

import (
	"bytes"
	"slices"

	"hayrick/alloc"
	"hayrick/api"
	"hayrick/store"
	"hayrick/wire"
)

// read is the list of the tree that has this root, and its nodes' blocks, in order.
func read(s *store.Store, root []byte) ([]api.Extent, []int) {
	height, l := rootForm().unpack(root)
	var blocks []int
	var nodes []api.Write
	for range height {
		parents := l
		l = nil
		for _, x := range parents {
			// A tree that names a block twice might have no end.
			mustBe(!slices.Contains(blocks, x.Physical))
			b, e := s.Read(x.Physical)
			mustBe(e == api.OK)
			_, entries := nodeForm().unpack(b)
			blocks = append(blocks, x.Physical)
			nodes = append(nodes, api.Write{Block: x.Physical, Data: b})
			l = append(l, entries...)
		}
	}
	mustBe(mayBe(l) && need(len(l)) == len(blocks))
	// A wrong count, height, nought or seal, another shape: each shows in that the list's own tree has other bytes.
	again, laid := treeOf(l, blocks)
	mustBe(bytes.Equal(again, root) && slices.EqualFunc(laid, nodes, same))
	return l, blocks
}

// places are the blocks of so many nodes: the old ones, as far as there are, and others that are taken. Old ones that are left over are given back.
func places(s *store.Store, old []int, n, goal int) []int {
	kept := min(n, len(old))
	for _, block := range slices.Backward(old[kept:]) {
		must(alloc.Free(s, block, 1))
	}
	blocks := slices.Clone(old[:kept])
	for range n - kept {
		if len(blocks) > 0 {
			goal = blocks[len(blocks)-1] + 1
		}
		block, _, e := alloc.Blocks(s, goal, 1)
		must(e)
		blocks = append(blocks, block)
	}
	return blocks
}

// lay writes nodes, of which the first ones, so many, stand in blocks of the old tree: these alone may be right already. What a block holds that was taken now may have been revoked, so it is written whatever it is.
func lay(s *store.Store, nodes []api.Write, old int) {
	for i, x := range nodes {
		if i < old {
			b, e := s.Read(x.Block)
			must(e)
			if bytes.Equal(b, x.Data) {
				continue
			}
		}
		must(s.Write(x.Block, x.Data))
	}
}

// need is how many nodes the tree of so many extents has.
func need(n int) int {
	nodes := 0
	for n > mostOfRoot {
		n = (n + mostOfNode - 1) / mostOfNode
		nodes += n
	}
	return nodes
}

// treeOf is the tree of a list, whose nodes stand in these blocks, as many as it needs: its root, and its nodes, in order.
func treeOf(l []api.Extent, blocks []int) ([]byte, []api.Write) {
	var nodes []api.Write
	height := 0
	for ; len(l) > mostOfRoot; height++ {
		parts := part(l, mostOfNode)
		// The levels are built from the leaves on, but stand in order from the root on.
		ahead := len(blocks) - len(parts)
		level := make([]api.Write, len(parts))
		l = make([]api.Extent, len(parts))
		for i, entries := range parts {
			block := blocks[ahead+i]
			level[i] = api.Write{Block: block, Data: node(block, height, entries)}
			l[i] = api.Extent{Logical: entries[0].Logical, Physical: block}
		}
		nodes = append(level, nodes...)
		blocks = blocks[:ahead]
	}
	return rootForm().pack(height, l), nodes
}

// node is the bytes of the node that stands in a block.
func node(block, height int, entries []api.Extent) []byte {
	b := nodeForm().pack(height, entries)
	must(wire.Seal(b, uint32(block)))
	return b
}

// part is a list in pieces of so many each, the last one of the rest.
func part[T any](l []T, most int) [][]T {
	var pieces [][]T
	for len(l) > 0 {
		n := min(most, len(l))
		pieces = append(pieces, l[:n])
		l = l[n:]
	}
	return pieces
}

func same(x, y api.Write) bool { return x.Block == y.Block && bytes.Equal(x.Data, y.Data) }
