package log

import (
	"slices"

	"hayrick/api"
	"hayrick/wire"
)

// Need is how many blocks a transaction takes.
func Need(writes, revokes int) int {
	writes, revokes = max(writes, 0), max(revokes, 0)
	return writes + rows(writes, mostWritten) + rows(revokes, mostRevoked) + 1
}

// Lay is a transaction's blocks.
func Lay(seq int, writes []api.Write, revokes []int) ([][]byte, api.Errno) {
	if len(writes) > api.MaxBlocks || len(revokes) > api.MaxBlocks || slices.ContainsFunc(writes, isNoBlock) {
		return nil, api.EINVAL
	}
	// Numbers that may not be are refused by Pack, each in the first record that says it.
	var blocks [][]byte
	for l := range slices.Chunk(writes, mostWritten) {
		entries, copies := escaped(l)
		b, e := Pack(Record{Kind: Descriptor, Seq: seq, Entries: entries})
		if e != api.OK {
			return nil, e
		}
		blocks = append(append(blocks, b), copies...)
	}
	for l := range slices.Chunk(revokes, mostRevoked) {
		b, e := Pack(Record{Kind: Revoke, Seq: seq, Entries: named(l)})
		if e != api.OK {
			return nil, e
		}
		blocks = append(blocks, b)
	}
	b, e := Pack(Record{Kind: Commit, Seq: seq, Sum: sumOf(seq, blocks)})
	if e != api.OK {
		return nil, e
	}
	return append(blocks, b), api.OK
}

// isNoBlock: is what was written another count of bytes than a block's?
func isNoBlock(w api.Write) bool { return len(w.Data) != api.BlockSize }

// rows is how many rows of at most size n things take.
func rows(n, size int) int {
	// n + size - 1 could come round.
	return n/size + min(n%size, 1)
}

// escaped are the entries and the copies of writes.
func escaped(writes []api.Write) ([]Entry, [][]byte) {
	var entries []Entry
	var copies [][]byte
	for _, w := range writes {
		b, yes := Escape(w.Data)
		entries = append(entries, Entry{Block: w.Block, Escaped: yes})
		copies = append(copies, b)
	}
	return entries, copies
}

// named are the entries of blocks of which no copy follows.
func named(blocks []int) []Entry {
	var l []Entry
	for _, n := range blocks {
		l = append(l, Entry{Block: n})
	}
	return l
}

// sumOf is the sum of blocks as if they were laid end to end: what stands ahead is the seed of what follows.
func sumOf(seq int, blocks [][]byte) uint32 {
	sum := uint32(seq)
	for _, b := range blocks {
		sum = wire.Crc(sum, b)
	}
	return sum
}
