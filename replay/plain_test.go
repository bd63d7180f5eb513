package replay_test

import (
	"bytes"
	"slices"
	"testing"

	"hayrick/api"
	"hayrick/disk"
	"hayrick/log"
	"hayrick/replay"
	"hayrick/wire"
)

// The chapter's own geometry, and others: the shortest journal and the next one, the longest.
var (
	example = api.Geometry{Blocks: 300, PerGroup: 200, Inodes: 16, Journal: 96}
	small   = api.Geometry{Blocks: 128, PerGroup: 128, Inodes: 8, Journal: 96}
	odd     = api.Geometry{Blocks: 300, PerGroup: 200, Inodes: 16, Journal: 97}
	long    = api.Geometry{Blocks: 700, PerGroup: 700, Inodes: 16, Journal: 512}
)

// all are these.
func all() []api.Geometry { return []api.Geometry{example, small, odd, long} }

// filled is a block of one byte, over and over.
func filled(x byte) []byte { return bytes.Repeat([]byte{x}, api.BlockSize) }

// marked is a block that begins with the journal's own mark, or with other bytes in its place.
func marked(x byte, mark ...byte) []byte {
	b := filled(x)
	copy(b, []byte{0x49, 0x52, 0x59, 0x48})
	copy(b, mark)
	return b
}

// op is a step of the disk: a write; or a flush, if its block is below 0.
type op struct {
	block int
	data  []byte
}

// flush is the op that is one.
var flush = op{block: -1}

// to are writes of one byte over and over.
func to(x byte, blocks ...int) []op {
	var l []op
	for _, n := range blocks {
		l = append(l, op{n, filled(x)})
	}
	return l
}

// rig is a disk with its geometry, and a recovery of it.
type rig struct {
	*testing.T
	g api.Geometry
	d *disk.Disk
	m *replay.Machine
}

// headed is a disk on which nothing stands but a head.
func headed(t *testing.T, g api.Geometry, seq, start int) *rig {
	t.Helper()
	d, e := disk.New(g.Blocks)
	if e != api.OK {
		t.Fatalf("disk.New(%d): %d", g.Blocks, e)
	}
	r := &rig{T: t, g: g, d: d}
	r.put(2, r.pack(log.Record{Kind: log.Head, Seq: seq, Start: start}))
	return r
}

// put lets a block stand for good.
func (r *rig) put(n int, b []byte) {
	r.Helper()
	if e := r.d.Write(n, b); e != api.OK {
		r.Fatalf("Write(%d, ..): %d", n, e)
	}
	r.d.Flush()
}

// rings lets blocks stand in the ring, from a place on: which place is behind them?
func (r *rig) rings(place int, blocks ...[]byte) int {
	r.Helper()
	ring := r.g.Journal - 1
	for i, b := range blocks {
		r.put(3+(place+i)%ring, b)
	}
	return (place + len(blocks)) % ring
}

// lays lets a transaction stand in the ring as layer 7 lays it: which place is behind it?
func (r *rig) lays(place, seq int, writes []op, revoked ...int) int {
	r.Helper()
	var l []api.Write
	for _, x := range writes {
		l = append(l, api.Write{Block: x.block, Data: x.data})
	}
	blocks, e := log.Lay(seq, l, revoked)
	if e != api.OK {
		r.Fatalf("log.Lay: %d", e)
	}
	return r.rings(place, blocks...)
}

func (r *rig) pack(x log.Record) []byte {
	r.Helper()
	b, e := log.Pack(x)
	if e != api.OK {
		r.Fatalf("log.Pack: %d", e)
	}
	return b
}

// copied is a descriptor and its copies, none of which is escaped.
func (r *rig) copied(seq int, writes ...op) [][]byte {
	r.Helper()
	x := log.Record{Kind: log.Descriptor, Seq: seq}
	l := [][]byte{nil}
	for _, w := range writes {
		x.Entries = append(x.Entries, log.Entry{Block: w.block})
		l = append(l, w.data)
	}
	l[0] = r.pack(x)
	return l
}

// revoked is a record that revokes blocks.
func (r *rig) revoked(seq int, blocks ...int) [][]byte {
	r.Helper()
	x := log.Record{Kind: log.Revoke, Seq: seq}
	for _, n := range blocks {
		x.Entries = append(x.Entries, log.Entry{Block: n})
	}
	return [][]byte{r.pack(x)}
}

// committed are blocks, and the commit that goes behind them.
func (r *rig) committed(seq int, parts ...[][]byte) [][]byte {
	r.Helper()
	l := slices.Concat(parts...)
	sum := wire.Crc(uint32(seq), slices.Concat(l...))
	return append(l, r.pack(log.Record{Kind: log.Commit, Seq: seq, Sum: sum}))
}

// begin lets a recovery be made, which must not have done anything.
func (r *rig) begin() {
	r.Helper()
	ops := r.d.Ops()
	m, e := replay.New(r.d, r.g)
	if e != api.OK || m == nil {
		r.Fatalf("New(.., %v): %v %d", r.g, m, e)
	}
	r.m = m
	r.told(0, 0, 0, 0)
	if r.d.Ops() != ops {
		r.Fatal("New did something")
	}
}

// told: is this what Place and Found answer?
func (r *rig) told(seq, start, found, laid int) {
	r.Helper()
	if s, a := r.m.Place(); s != seq || a != start {
		r.Fatalf("Place: %d %d, want %d %d", s, a, seq, start)
	}
	if f, l := r.m.Found(); f != found || l != laid {
		r.Fatalf("Found: %d %d, want %d %d", f, l, found, laid)
	}
}

// steps: does a Step answer this, and do just these steps of the disk?
func (r *rig) steps(wantEnd bool, want api.Errno, ops ...op) {
	r.Helper()
	pending, done := r.d.Pending(), r.d.Ops()
	if end, e := r.m.Step(); end != wantEnd || e != want {
		r.Fatalf("Step: %t %d, want %t %d", end, e, wantEnd, want)
	}
	for _, x := range ops {
		if x.block < 0 {
			pending = nil
		} else {
			pending = append(pending, api.Write{Block: x.block, Data: x.data})
		}
	}
	if got := r.d.Ops() - done; got != len(ops) {
		r.Fatalf("steps of the disk: %d, want %d", got, len(ops))
	}
	if got := r.d.Pending(); !sameWrites(got, pending) {
		r.Fatalf("pending: %v, want %v", briefs(got), briefs(pending))
	}
}

// recovers: does a recovery of the disk find so many transactions, lay these copies home, and begin the journal anew with this number, at this place?
func (r *rig) recovers(seq, start, found int, home ...op) {
	r.Helper()
	r.begin()
	head := op{2, r.pack(log.Record{Kind: log.Head, Seq: seq, Start: start})}
	l := append(slices.Clone(home), flush, head, flush)
	for i, x := range l {
		r.steps(i == len(l)-1, api.OK, x)
		r.told(seq, start, found, len(home))
	}
	for range 3 {
		r.steps(true, api.OK)
		r.told(seq, start, found, len(home))
	}
}

// unclean: is a recovery of the disk refused, now and later on?
func (r *rig) unclean() {
	r.Helper()
	r.begin()
	for range 3 {
		r.steps(true, api.EUCLEAN)
		r.told(0, 0, 0, 0)
	}
}

// blocks are all of the disk.
func (r *rig) blocks() [][]byte { return blocksOf(r.T, r.d) }

func blocksOf(t *testing.T, d *disk.Disk) [][]byte {
	t.Helper()
	var l [][]byte
	for n := range d.Blocks() {
		b, e := d.Read(n)
		if e != api.OK {
			t.Fatalf("Read(%d): %d", n, e)
		}
		l = append(l, b)
	}
	return l
}

func sameWrites(a, b []api.Write) bool {
	return slices.EqualFunc(a, b, func(x, y api.Write) bool {
		return x.Block == y.Block && bytes.Equal(x.Data, y.Data)
	})
}

// briefs are the blocks of writes, and the first bytes of them.
func briefs(l []api.Write) [][2]int {
	var out [][2]int
	for _, w := range l {
		out = append(out, [2]int{w.Block, int(append(slices.Clone(w.Data), 0)[0])})
	}
	return out
}
