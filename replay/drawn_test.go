package replay_test

import (
	"hash/crc32"
	"math/rand"
	"slices"
	"testing"

	"hayrick/api"
	"hayrick/log"
)

// plain is what a recovery finds, and writes.
type plain struct {
	unclean           bool
	seq, start, found int
	home              []op
	revoked           int // copies that are not laid home
}

// plainOf is what the document says of a disk of these blocks: the ring is laid out from the head's place on, once round, and each length is tried.
func plainOf(blocks [][]byte, g api.Geometry) plain {
	head, e := log.Unpack(blocks[2])
	ring := g.Journal - 1
	if e != api.OK || head.Kind != log.Head || head.Seq > 1<<30 || head.Start > ring-1 {
		return plain{unclean: true}
	}
	row := slices.Concat(blocks[3+head.Start:3+ring], blocks[3:3+head.Start])
	var told [][]log.Record
	var copies [][][]byte
	read := 0
	for n := 1; read+n <= len(row); n++ {
		l, c, ok := whole(row[read:read+n], head.Seq+len(told))
		if ok {
			told, copies = append(told, l), append(copies, c)
			read, n = read+n, 0
		}
	}
	p := plain{seq: head.Seq + len(told) + 1, start: (head.Start + read) % ring, found: len(told)}
	for i, l := range told {
		for _, x := range l {
			if x.Kind != log.Descriptor {
				continue
			}
			for _, n := range x.Entries {
				b := copies[i][0]
				copies[i] = copies[i][1:]
				if revokes(told[i+1:], n.Block) {
					p.revoked++
					continue
				}
				p.home = append(p.home, op{n.Block, log.Unescape(b, n.Escaped)})
				p.unclean = p.unclean || n.Block >= g.Blocks || n.Block >= 2 && n.Block <= 1+g.Journal
			}
		}
	}
	if p.unclean || p.seq > 1<<30 {
		return plain{unclean: true}
	}
	return p
}

// whole: are blocks a transaction, from the first to the last? Its records and its copies.
func whole(blocks [][]byte, seq int) ([]log.Record, [][]byte, bool) {
	last := len(blocks) - 1
	x, e := log.Unpack(blocks[last])
	if e != api.OK || x.Kind != log.Commit || x.Seq != seq {
		return nil, nil, false
	}
	ahead := slices.Concat(blocks[:last]...)
	if x.Sum != crc32.Update(uint32(seq), crc32.MakeTable(crc32.Castagnoli), ahead) {
		return nil, nil, false
	}
	var told []log.Record
	var copies [][]byte
	for l := blocks[:last]; len(l) > 0; {
		x, e := log.Unpack(l[0])
		if e != api.OK || x.Seq != seq || x.Kind != log.Descriptor && x.Kind != log.Revoke {
			return nil, nil, false
		}
		told, l = append(told, x), l[1:]
		if x.Kind == log.Descriptor {
			if len(l) < len(x.Entries) {
				return nil, nil, false
			}
			copies, l = append(copies, l[:len(x.Entries)]...), l[len(x.Entries):]
		}
	}
	return told, copies, true
}

// revokes: does one of some transactions revoke a block?
func revokes(told [][]log.Record, block int) bool {
	for _, x := range slices.Concat(told...) {
		if x.Kind == log.Revoke && slices.Contains(x.Entries, log.Entry{Block: block}) {
			return true
		}
	}
	return false
}

// drawn is a rig whose blocks are drawn.
type drawn struct {
	*rig
	*rand.Rand
}

// block is the number of a drawn one: most of them few ones, a few of them ones to which nothing may be laid.
func (w *drawn) block() int {
	switch w.Intn(300) {
	case 0:
		return w.Intn(api.MaxBlocks)
	case 1:
		return 1 + w.Intn(2)
	case 2:
		return w.g.Journal + w.Intn(3)
	}
	return 2 + w.g.Journal + w.Intn(9)
}

// bytes are a drawn block's.
func (w *drawn) bytes() []byte {
	b := filled(0)
	w.Read(b)
	switch w.Intn(6) {
	case 0:
		copy(b, marked(0)[:4])
	case 1:
		clear(b[:4])
	case 2:
		return w.committed(1 + w.Intn(9))[0]
	}
	return b
}

// transaction is a drawn one's blocks, which are seldom as layer 7 lays them.
func (w *drawn) transaction(seq int) [][]byte {
	w.Helper()
	var parts [][][]byte
	for range w.Intn(4) {
		x := log.Record{Kind: log.Descriptor, Seq: seq}
		most := 48
		if w.Intn(3) == 0 {
			x.Kind, most = log.Revoke, 60
		}
		part := [][]byte{nil}
		for range 1 + w.Intn(1+w.Intn(1+w.Intn(most))) {
			n := log.Entry{Block: w.block(), Escaped: x.Kind == log.Descriptor && w.Intn(4) == 0}
			x.Entries = append(x.Entries, n)
			if x.Kind == log.Descriptor {
				part = append(part, w.bytes())
			}
		}
		part[0] = w.pack(x)
		parts = append(parts, part)
	}
	return w.committed(seq, parts...)
}

// harm does something to a transaction's blocks.
func (w *drawn) harm(seq int, l [][]byte) [][]byte {
	i := w.Intn(len(l))
	switch w.Intn(5) {
	case 0:
		l[i][w.Intn(api.BlockSize)] ^= 1 << w.Intn(8)
	case 1:
		return slices.Delete(l, i, i+1)
	case 2:
		j := w.Intn(len(l))
		l[i], l[j] = l[j], l[i]
	case 3:
		l[i] = w.pack(log.Record{Kind: log.Head, Seq: seq, Start: w.Intn(95)})
	case 4:
		l[i] = w.committed(seq)[0]
	}
	return l
}

// fill lets the ring hold what may have stood there once, and transactions of the head's numbers.
func (w *drawn) fill(seq, start int) {
	w.Helper()
	switch w.Intn(3) {
	case 0:
		for n := range w.g.Journal - 1 {
			w.rings(n, w.bytes())
		}
	case 1:
		for range 20 {
			w.rings(w.Intn(w.g.Journal), w.transaction(max(seq-5, 1)+w.Intn(5))...)
		}
	}
	for range w.Intn(7) {
		l := w.transaction(seq)
		if w.Intn(8) == 0 {
			l = w.harm(seq, l)
		}
		start = w.rings(start, l...)
		seq++
	}
}

// P9.2 to P9.4: of drawn disks a recovery finds and writes what the document says.
func TestPlainRecovery(t *testing.T) {
	for seed, g := range all() {
		draw := rand.New(rand.NewSource(int64(71 + seed)))
		var unclean, many, revoked int
		for range 700 {
			seq, start := 1+draw.Intn(9), draw.Intn(g.Journal-1)
			switch draw.Intn(20) {
			case 0:
				seq = 1<<30 - draw.Intn(6)
			case 1:
				start = draw.Intn(api.MaxJournal)
			}
			w := &drawn{headed(t, g, seq, start), draw}
			w.fill(seq, start)
			p := plainOf(w.blocks(), g)
			if p.unclean {
				unclean++
				w.unclean()
				continue
			}
			w.recovers(p.seq, p.start, p.found, p.home...)
			if p.found > 2 {
				many++
			}
			if p.revoked > 0 {
				revoked++
			}
		}
		if unclean < 70 || many < 70 || revoked < 70 {
			t.Errorf("%v: %d unclean, %d of many, %d with a revoke: the draw asks too little", g, unclean, many, revoked)
		}
	}
}

// R1: disks of any bytes, with any head that may be, are recovered or refused, in no more Steps than the ring has places, and three.
func TestAnyBytes(t *testing.T) {
	draw := rand.New(rand.NewSource(81))
	for range 300 {
		w := &drawn{headed(t, small, 1+draw.Intn(3), draw.Intn(95)), draw}
		for n := range small.Blocks {
			if n != 2 || draw.Intn(3) == 0 {
				w.put(n, w.bytes())
			}
		}
		w.rings(draw.Intn(95), w.transaction(1+draw.Intn(3))...)
		w.begin()
		steps := 0
		for ended := false; !ended; steps++ {
			ended, _ = w.m.Step()
		}
		if steps > 95+3 {
			t.Fatalf("%d Steps", steps)
		}
	}
}
