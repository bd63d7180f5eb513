package log_test

import (
	"bytes"
	"encoding/binary"
	"hash/crc32"
	"math"
	"math/rand"
	"slices"
	"testing"

	"hayrick/api"
	"hayrick/log"
)

// mark is what a record's block begins with, the least byte of Magic first.
var mark = []byte{0x49, 0x52, 0x59, 0x48}

// far are numbers that are far from what is counted here, and such that look near where bits are lost.
var far = []int{math.MinInt, math.MinInt + 1, math.MinInt32, -1 << 32, -1<<32 + 1, -1, 1 << 31, 1<<32 - 1, 1 << 32, 1<<32 + 1, 1<<40 + 1, math.MaxInt - 1, math.MaxInt}

// sum is the sum over bytes, by another way than package wire's.
func sum(seed uint32, b []byte) uint32 {
	return crc32.Update(seed, crc32.MakeTable(crc32.Castagnoli), b)
}

// seal writes the sum of all ahead into the last four bytes.
func seal(b []byte, seed uint32) []byte {
	at := len(b) - 4
	binary.LittleEndian.PutUint32(b[at:], sum(seed, b[:at]))
	return b
}

func four(b []byte, x int) []byte { return binary.LittleEndian.AppendUint32(b, uint32(x)) }

// head is what a record that says it has so many entries begins with.
func head(kind, seq, entries int) []byte {
	b := append(bytes.Clone(mark), byte(kind))
	return binary.LittleEndian.AppendUint16(four(b, seq), uint16(entries))
}

// laid is a sealed block that begins with these bytes.
func laid(begin []byte, seed uint32) []byte {
	b := make([]byte, 256)
	copy(b, begin)
	return seal(b, seed)
}

// plainBlock is the chapter's block of a record, whether it may be or not, as far as it goes into one.
func plainBlock(r log.Record) []byte {
	b := head(r.Kind, r.Seq, len(r.Entries))
	for _, x := range r.Entries {
		b = four(b, x.Block)
		if r.Kind == 1 && x.Escaped {
			b = append(b, 1)
		} else if r.Kind == 1 {
			b = append(b, 0)
		}
	}
	if r.Kind == 2 {
		b = four(b, int(r.Sum))
	}
	if r.Kind == 4 {
		b = four(b, r.Start)
	}
	return laid(b, uint32(r.Seq))
}

func same(a, b log.Record) bool {
	return a.Kind == b.Kind && a.Seq == b.Seq && slices.Equal(a.Entries, b.Entries) && a.Sum == b.Sum && a.Start == b.Start
}

// nothing: is it a record that says nothing?
func nothing(r log.Record) bool { return same(r, log.Record{}) }

// entries are n of them, told from one another; every third one is escaped, if any may be.
func entries(n int, escaped bool) []log.Entry {
	var l []log.Entry
	for i := range n {
		l = append(l, log.Entry{Block: (4095 - 83*i) & 4095, Escaped: escaped && i%3 == 0})
	}
	return l
}

// seqs are numbers of transactions, at the edges and between.
var seqs = []int{1, 2, 255, 256, 65536, 1 << 24, 0x01020304, 1 << 30, math.MaxInt32 - 1, math.MaxInt32}

// records are such that may be, at the edges of all that they say.
func records() []log.Record {
	draw := rand.New(rand.NewSource(7))
	var out []log.Record
	for _, seq := range seqs {
		for n := 1; n <= 60; n++ {
			out = append(out,
				log.Record{Kind: log.Revoke, Seq: seq, Entries: entries(n, false)},
				log.Record{Kind: log.Revoke, Seq: seq, Entries: make([]log.Entry, n)},
				log.Record{Kind: log.Revoke, Seq: seq, Entries: slices.Repeat([]log.Entry{{Block: 4095}}, n)})
		}
		for n := 1; n <= 48; n++ {
			drawn := entries(n, false)
			for i := range drawn {
				drawn[i] = log.Entry{Block: draw.Intn(4096), Escaped: draw.Intn(2) == 0}
			}
			out = append(out,
				log.Record{Kind: log.Descriptor, Seq: seq, Entries: entries(n, true)},
				log.Record{Kind: log.Descriptor, Seq: seq, Entries: make([]log.Entry, n)},
				log.Record{Kind: log.Descriptor, Seq: seq, Entries: slices.Repeat([]log.Entry{{Block: 4095, Escaped: true}}, n)},
				log.Record{Kind: log.Descriptor, Seq: seq, Entries: drawn})
		}
		for _, x := range []uint32{0, 1, 255, 256, 0x48595249, 0x7FFFFFFF, 0x80000000, math.MaxUint32} {
			out = append(out, log.Record{Kind: log.Commit, Seq: seq, Sum: x}, log.Record{Kind: log.Commit, Seq: seq, Sum: x, Entries: []log.Entry{}})
		}
		for _, x := range []int{0, 1, 94, 95, 96, 255, 256, 510, 511} {
			out = append(out, log.Record{Kind: log.Head, Seq: seq, Start: x}, log.Record{Kind: log.Head, Seq: seq, Start: x, Entries: []log.Entry{}})
		}
	}
	return out
}

// one is a record of each kind that may be, by its kind.
func one(kind int) log.Record {
	switch kind {
	case 1:
		return log.Record{Kind: 1, Seq: 77, Entries: entries(5, true)}
	case 2:
		return log.Record{Kind: 2, Seq: 77, Sum: 0xE3069283}
	case 3:
		return log.Record{Kind: 3, Seq: 77, Entries: entries(5, false)}
	}
	return log.Record{Kind: 4, Seq: 77, Start: 300}
}

// data is a block's bytes, no two of which next to one another are the same; it begins with the mark, if so said.
func data(from int, marked bool) []byte {
	b := make([]byte, 256)
	for i := range b {
		b[i] = byte(from + 37*i)
	}
	if marked {
		copy(b, mark)
	}
	return b
}

// writes are n of them, told from one another, every fourth one of which begins with the mark.
func writes(n int) []api.Write {
	var l []api.Write
	for i := range n {
		l = append(l, api.Write{Block: 4095 - i, Data: data(i, i%4 == 2)})
	}
	return l
}

// revokes are n numbers of blocks.
func revokes(n int) []int {
	var l []int
	for i := range n {
		l = append(l, i)
	}
	return l
}

// plainLay is the chapter's transaction, laid block by block.
func plainLay(seq int, writes []api.Write, revokes []int) [][]byte {
	var out [][]byte
	for len(writes) > 0 {
		n := min(48, len(writes))
		r := log.Record{Kind: 1, Seq: seq}
		var copies [][]byte
		for _, w := range writes[:n] {
			b := bytes.Clone(w.Data)
			marked := bytes.HasPrefix(b, mark)
			if marked {
				copy(b, []byte{0, 0, 0, 0})
			}
			r.Entries = append(r.Entries, log.Entry{Block: w.Block, Escaped: marked})
			copies = append(copies, b)
		}
		out = append(append(out, plainBlock(r)), copies...)
		writes = writes[n:]
	}
	for len(revokes) > 0 {
		n := min(60, len(revokes))
		r := log.Record{Kind: 3, Seq: seq}
		for _, x := range revokes[:n] {
			r.Entries = append(r.Entries, log.Entry{Block: x})
		}
		out = append(out, plainBlock(r))
		revokes = revokes[n:]
	}
	return append(out, plainBlock(log.Record{Kind: 2, Seq: seq, Sum: sum(uint32(seq), bytes.Join(out, nil))}))
}

// noRecord: is a block one that no record is packed as, and stays it as it was?
func noRecord(t *testing.T, b []byte) {
	t.Helper()
	kept := bytes.Clone(b)
	if r, e := log.Unpack(b); !nothing(r) || e != api.EUCLEAN {
		t.Fatalf("Unpack(%x): %v %d", b, r, e)
	}
	if !bytes.Equal(b, kept) {
		t.Fatal("Unpack changed what it was given")
	}
}
