package log_test

import (
	"bytes"
	"encoding/hex"
	"math"
	"math/rand"
	"slices"
	"testing"

	"hayrick/api"
	"hayrick/log"
)

// The kinds have the numbers that the chapter gives them.
func TestKinds(t *testing.T) {
	if got := []int{log.Descriptor, log.Commit, log.Revoke, log.Head}; !slices.Equal(got, []int{1, 2, 3, 4}) {
		t.Errorf("kinds: %v", got)
	}
}

// P7.1: blocks by their bytes.
func TestPackBytes(t *testing.T) {
	for _, c := range []struct {
		r    log.Record
		want string
	}{
		{log.Record{Kind: log.Descriptor, Seq: 0x01020304, Entries: []log.Entry{{Block: 258}, {Block: 4095, Escaped: true}}}, "49525948" + "01" + "04030201" + "0200" + "02010000" + "00" + "ff0f0000" + "01"},
		{log.Record{Kind: log.Commit, Seq: 9, Sum: 0xE3069283}, "49525948" + "02" + "09000000" + "0000" + "839206e3"},
		{log.Record{Kind: log.Revoke, Seq: 1, Entries: []log.Entry{{Block: 300}, {Block: 0}, {Block: 7}}}, "49525948" + "03" + "01000000" + "0300" + "2c010000" + "00000000" + "07000000"},
		{log.Record{Kind: log.Head, Seq: math.MaxInt32, Start: 511}, "49525948" + "04" + "ffffff7f" + "0000" + "ff010000"},
	} {
		begin, _ := hex.DecodeString(c.want)
		if b, e := log.Pack(c.r); e != api.OK || !bytes.Equal(b, laid(begin, uint32(c.r.Seq))) {
			t.Errorf("Pack(%v): %x %d", c.r, b, e)
		}
	}
}

// P7.1, P7.5: each record that may be is packed as the chapter says, and Unpack of it is it.
func TestPackPlain(t *testing.T) {
	for _, r := range records() {
		given := r
		given.Entries = slices.Clone(r.Entries)
		b, e := log.Pack(r)
		if e != api.OK || !bytes.Equal(b, plainBlock(r)) || !same(r, given) {
			t.Fatalf("Pack(%v): %x %d", r, b, e)
		}
		kept := bytes.Clone(b)
		if got, e := log.Unpack(b); e != api.OK || !same(got, r) || !bytes.Equal(b, kept) {
			t.Fatalf("Unpack of %v: %v %d", r, got, e)
		}
	}
}

// noPack: is a record refused?
func noPack(t *testing.T, r log.Record) {
	t.Helper()
	if b, e := log.Pack(r); len(b) != 0 || e != api.EINVAL {
		t.Fatalf("Pack(%v): %x %d", r, b, e)
	}
}

// P7.1: what may not be, by one number each.
func TestPackWrong(t *testing.T) {
	for kind := 1; kind <= 4; kind++ {
		for _, seq := range append([]int{0}, far...) {
			r := one(kind)
			r.Seq = seq
			noPack(t, r)
		}
		for _, start := range append([]int{512, 513, 65536}, far...) {
			r := one(kind)
			r.Start = start
			noPack(t, r)
		}
		if kind != log.Head {
			r := one(kind)
			for _, r.Start = range []int{1, 95, 511} {
				noPack(t, r)
			}
		}
		if kind != log.Commit {
			r := one(kind)
			for _, r.Sum = range []uint32{1, 256, 0x80000000, math.MaxUint32} {
				noPack(t, r)
			}
		}
	}
	for _, kind := range append([]int{0, 5, 6, 255, 256, 257, 258, 259, 260}, far...) {
		for n := range 3 {
			noPack(t, log.Record{Kind: kind, Seq: 1, Entries: entries(n, false)})
		}
	}
	noPack(t, log.Record{})
	noPack(t, log.Record{Seq: 1})
}

// P7.1: how many entries there may be, and what they may say.
func TestPackWrongEntries(t *testing.T) {
	most := map[int]int{log.Descriptor: 48, log.Revoke: 60}
	for kind := 1; kind <= 4; kind++ {
		for _, n := range []int{0, 1, 2, 47, 48, 49, 50, 59, 60, 61, 62, 255, 256, 257, 4096, 65536, 65537, 65584, 1 << 17} {
			may := 1 <= n && n <= most[kind]
			if may || n == 0 && most[kind] == 0 {
				continue
			}
			noPack(t, log.Record{Kind: kind, Seq: 1, Entries: make([]log.Entry, n)})
		}
		for n := 1; n <= most[kind]; n++ {
			for i := range n {
				for _, x := range append([]int{4096, 4097, 65536}, far...) {
					r := log.Record{Kind: kind, Seq: 1, Entries: entries(n, false)}
					r.Entries[i].Block = x
					noPack(t, r)
				}
				if kind == log.Revoke {
					r := log.Record{Kind: kind, Seq: 1, Entries: entries(n, false)}
					r.Entries[i].Escaped = true
					noPack(t, r)
				}
			}
		}
	}
}

// P7.1: blocks that say, whole and sealed, what may not be.
func TestUnpackWrong(t *testing.T) {
	for kind := 1; kind <= 4; kind++ {
		for _, seq := range []int{0, 1 << 31, 1<<31 + 1, 1<<32 - 1} {
			r := one(kind)
			r.Seq = seq
			noRecord(t, plainBlock(r))
		}
		for _, x := range []int{4096, 4097, 65536, 1<<16 + 1, 1 << 31, 1<<32 - 1} {
			for i := range one(kind).Entries {
				r := one(kind)
				r.Entries[i].Block = x
				noRecord(t, plainBlock(r))
			}
		}
	}
	for _, start := range []int{512, 513, 65536, 1 << 31, 1<<32 - 1} {
		noRecord(t, plainBlock(log.Record{Kind: log.Head, Seq: 77, Start: start}))
	}
	for kind := range 256 {
		if 1 <= kind && kind <= 4 {
			continue
		}
		for n := range 3 {
			noRecord(t, plainBlock(log.Record{Kind: kind, Seq: 77, Entries: entries(n, false)}))
		}
	}
}

// P7.1: blocks that say that they have more entries than there may be, fewer than none, or than stand there.
func TestUnpackCounts(t *testing.T) {
	for n := range 1 << 16 {
		for kind := 1; kind <= 4; kind++ {
			noughts := laid(head(kind, 77, n), 77)
			may := kind == log.Descriptor && 1 <= n && n <= 48 || kind == log.Revoke && 1 <= n && n <= 60 || kind%2 == 0 && n == 0
			if !may {
				noRecord(t, noughts)
			} else if r, e := log.Unpack(noughts); e != api.OK || len(r.Entries) != n || r.Kind != kind {
				t.Fatalf("Unpack of %d entries of the kind %d: %v %d", n, kind, r, e)
			}
			if n > 300 || kind%2 == 0 {
				continue
			}
			// Five stand there: fewer that are told leave bytes behind them that aren't noughts.
			b := plainBlock(one(kind))
			b[9], b[10] = byte(n), byte(n/256)
			if n < 5 || !may {
				noRecord(t, seal(b, 77))
			}
		}
	}
}

// P7.1, P7.5: no bit may be turned; and where it is and the block is sealed again, either it is none, or it is packed of what it says.
func TestUnpackTurned(t *testing.T) {
	for kind := 1; kind <= 4; kind++ {
		good := plainBlock(one(kind))
		others := 0
		for i := range 8 * 256 {
			b := bytes.Clone(good)
			b[i/8] ^= 1 << (i % 8)
			noRecord(t, b)
			if i/8 >= 252 {
				continue
			}
			r, e := log.Unpack(seal(b, 77))
			if e != api.OK {
				noRecord(t, b)
				continue
			}
			others++
			if again, e := log.Pack(r); e != api.OK || !bytes.Equal(again, b) {
				t.Fatalf("kind %d, bit %d: %v is packed as %x %d", kind, i, r, again, e)
			}
			// The mark, another number than the seed's, noughts.
			if i/8 < 4 || 5 <= i/8 && i/8 < 9 || i/8 >= 36 {
				t.Fatalf("kind %d, bit %d: told as %v", kind, i, r)
			}
		}
		if others == 0 {
			t.Errorf("kind %d: no bit turned told another record", kind)
		}
	}
}

// P7.1: what says whether an entry is escaped is 0 or 1.
func TestUnpackEscapedByte(t *testing.T) {
	r := log.Record{Kind: log.Descriptor, Seq: 77, Entries: entries(48, true)}
	for i := range 48 {
		for x := range 256 {
			b := plainBlock(r)
			b[15+5*i] = byte(x)
			seal(b, 77)
			if x > 1 {
				noRecord(t, b)
			} else if got, e := log.Unpack(b); e != api.OK || got.Entries[i].Escaped != (x == 1) || got.Entries[i].Block != r.Entries[i].Block {
				t.Fatalf("entry %d, byte %d: %v %d", i, x, got, e)
			}
		}
	}
}

// P7.1: bytes that are no such block: other lengths, other seeds, any bytes.
func TestNoRecord(t *testing.T) {
	noRecord(t, nil)
	noRecord(t, make([]byte, 256))
	noRecord(t, laid(nil, 0))
	noRecord(t, bytes.Repeat([]byte{255}, 256))
	draw := rand.New(rand.NewSource(3))
	for kind := 1; kind <= 4; kind++ {
		good := plainBlock(one(kind))
		for _, n := range []int{0, 1, 3, 4, 10, 11, 12, 15, 36, 252, 255, 257, 260, 512} {
			b := make([]byte, n)
			copy(b, good)
			noRecord(t, b)
			if n >= 4 {
				noRecord(t, seal(b, 77))
			}
		}
		noRecord(t, good[:255:256])
		for _, seed := range []uint32{0, 1, 76, 78, 0x8000004D, math.MaxUint32} {
			noRecord(t, laid(good[:252], seed))
		}
		for range 2000 {
			b := make([]byte, 256)
			draw.Read(b)
			noRecord(t, b)
			copy(b, good[:11])
			noRecord(t, b)
			noRecord(t, seal(b, 77))
		}
	}
}

// R3: what is answered is new memory.
func TestRecordShared(t *testing.T) {
	for kind := 1; kind <= 4; kind++ {
		r := one(kind)
		first, _ := log.Pack(r)
		second, _ := log.Pack(r)
		got, _ := log.Unpack(first)
		other, _ := log.Unpack(first)
		for i := range first {
			first[i] = 9
		}
		for i := range r.Entries {
			r.Entries[i], got.Entries[i] = log.Entry{}, log.Entry{Block: 1}
		}
		if !bytes.Equal(second, plainBlock(one(kind))) || !same(other, one(kind)) {
			t.Errorf("%x %v", second, other)
		}
	}
}
