package log_test

import (
	"bytes"
	"math"
	"math/rand"
	"slices"
	"testing"

	"hayrick/api"
	"hayrick/log"
)

// P7.3: as the chapter counts it, row by row.
func TestNeed(t *testing.T) {
	for _, c := range [][3]int{{0, 0, 1}, {48, 61, 52}, {49, 0, 52}, {1, 0, 3}, {0, 1, 2}, {0, 60, 2}, {0, 61, 3}, {48, 60, 51}, {96, 120, 101}, {97, 121, 104}} {
		if got := log.Need(c[0], c[1]); got != c[2] {
			t.Errorf("Need(%d, %d): %d, want %d", c[0], c[1], got, c[2])
		}
	}
	descriptors := 0
	for w := range 500 {
		if w%48 == 1 {
			descriptors++
		}
		revoked := 0
		for r := range 500 {
			if r%60 == 1 {
				revoked++
			}
			if got, want := log.Need(w, r), w+descriptors+revoked+1; got != want {
				t.Fatalf("Need(%d, %d): %d, want %d", w, r, got, want)
			}
		}
	}
	if got := log.Need(4096, 4096); got != 4096+86+69+1 {
		t.Errorf("Need(4096, 4096): %d", got)
	}
}

// P7.3: numbers below 0 count as 0; great ones are not lost.
func TestNeedFar(t *testing.T) {
	for _, x := range []int{math.MinInt, math.MinInt + 1, math.MinInt32, -1 << 32, -61, -60, -48, -1} {
		if a, b, c, d := log.Need(x, 0), log.Need(0, x), log.Need(x, x), log.Need(x, 61); a != 1 || b != 1 || c != 1 || d != 3 {
			t.Errorf("Need of %d: %d %d %d %d", x, a, b, c, d)
		}
		if got := log.Need(49, x); got != 52 {
			t.Errorf("Need(49, %d): %d", x, got)
		}
	}
	if got := log.Need(48<<40, 60<<40); got != 50<<40+1 {
		t.Errorf("Need(48 << 40, 60 << 40): %d", got)
	}
	// MaxInt is 60 times 153722867280912930, and 7.
	if got := log.Need(0, math.MaxInt); got != 153722867280912932 {
		t.Errorf("Need(0, MaxInt): %d", got)
	}
}

// counts are such of writes and revokes at and about which another row begins.
var counts = []int{0, 1, 2, 47, 48, 49, 59, 60, 61, 95, 96, 97, 119, 120, 121, 300}

// P7.4, P7.5: transactions as the chapter lays them, of as many blocks as Need says.
func TestLayPlain(t *testing.T) {
	for i, w := range counts {
		for k, r := range counts {
			seq := seqs[(i+k)%len(seqs)]
			given, revoked := writes(w), revokes(r)
			got, e := log.Lay(seq, given, revoked)
			if e != api.OK || !slices.EqualFunc(got, plainLay(seq, writes(w), revokes(r)), bytes.Equal) {
				t.Fatalf("Lay(%d, %d writes, %d revokes): %x %d", seq, w, r, got, e)
			}
			if len(got) != log.Need(w, r) {
				t.Fatalf("Lay(%d writes, %d revokes): %d blocks", w, r, len(got))
			}
			if !slices.Equal(revoked, revokes(r)) || !slices.EqualFunc(given, writes(w), sameWrite) {
				t.Fatalf("Lay(%d writes, %d revokes) changed what it was given", w, r)
			}
		}
	}
}

func sameWrite(a, b api.Write) bool { return a.Block == b.Block && bytes.Equal(a.Data, b.Data) }

// P7.4: of nothing it is a Commit alone, whose sum is that of no bytes.
func TestLayNothing(t *testing.T) {
	for _, seq := range seqs {
		got, e := log.Lay(seq, nil, nil)
		if e != api.OK || len(got) != 1 || !bytes.Equal(got[0], plainBlock(log.Record{Kind: 2, Seq: seq, Sum: uint32(seq)})) {
			t.Errorf("Lay(%d, nil, nil): %x %d", seq, got, e)
		}
	}
	if got, e := log.Lay(7, []api.Write{}, []int{}); e != api.OK || len(got) != 1 {
		t.Errorf("Lay of empty lists: %x %d", got, e)
	}
}

// P7.4: as many as there may be, and a block more than once.
func TestLayMost(t *testing.T) {
	w, r := slices.Repeat([]api.Write{{Block: 4095, Data: data(3, true)}, {Block: 0, Data: data(4, false)}}, 2048), slices.Repeat([]int{4095, 0}, 2048)
	got, e := log.Lay(math.MaxInt32, w, r)
	if e != api.OK || !slices.EqualFunc(got, plainLay(math.MaxInt32, w, r), bytes.Equal) {
		t.Errorf("Lay of 4096 writes and 4096 revokes: %d blocks %d", len(got), e)
	}
	wrong := func(w []api.Write, r []int) {
		t.Helper()
		if l, e := log.Lay(1, w, r); len(l) != 0 || e != api.EINVAL {
			t.Errorf("Lay(%d writes, %d revokes): %d blocks %d", len(w), len(r), len(l), e)
		}
	}
	wrong(append(w, w[0]), nil)
	wrong(nil, append(r, 1))
	wrong(append(w, w[0]), append(r, 1))
	wrong(slices.Repeat(w, 2), r)
}

// P7.4: a wrong number of the transaction, of a block, of bytes, at each place.
func TestLayWrong(t *testing.T) {
	wrong := func(seq int, w []api.Write, r []int) {
		t.Helper()
		if l, e := log.Lay(seq, w, r); len(l) != 0 || e != api.EINVAL {
			t.Fatalf("Lay(%d, %d writes, %d revokes): %d blocks %d", seq, len(w), len(r), len(l), e)
		}
	}
	for _, seq := range append([]int{0}, far...) {
		wrong(seq, nil, nil)
		wrong(seq, writes(3), revokes(3))
	}
	for _, n := range []int{1, 3, 49, 61} {
		for i := range n {
			for _, x := range append([]int{4096, 4097, 65536}, far...) {
				w, r := writes(n), revokes(n)
				w[i].Block, r[i] = x, x
				wrong(1, w, nil)
				wrong(1, w, revokes(n))
				wrong(1, nil, r)
				wrong(1, writes(n), r)
			}
			for _, size := range []int{0, 1, 4, 128, 255, 257, 512} {
				w := writes(n)
				w[i].Data = make([]byte, size)
				wrong(1, w, nil)
				w[i].Data = make([]byte, 256)[:min(size, 255)]
				wrong(1, w, nil)
			}
			w := writes(n)
			w[i].Data = nil
			wrong(1, w, nil)
		}
	}
}

// told is the transaction that blocks tell, read from the front on as the chapter lays them; false, if they don't tell one.
func told(seq int, blocks [][]byte) ([]api.Write, []int, bool) {
	var writes []api.Write
	var revokes []int
	for i := 0; i < len(blocks); i++ {
		r, e := log.Unpack(blocks[i])
		if e != api.OK || r.Seq != seq {
			return nil, nil, false
		}
		switch r.Kind {
		case log.Descriptor:
			if len(blocks)-i <= len(r.Entries) {
				return nil, nil, false
			}
			for _, x := range r.Entries {
				i++
				writes = append(writes, api.Write{Block: x.Block, Data: log.Unescape(blocks[i], x.Escaped)})
			}
		case log.Revoke:
			for _, x := range r.Entries {
				revokes = append(revokes, x.Block)
			}
		case log.Commit:
			return writes, revokes, i == len(blocks)-1 && r.Sum == sum(uint32(seq), bytes.Join(blocks[:i], nil))
		}
	}
	return nil, nil, false
}

// P7.5: what was laid is told by its blocks; no copy can be taken for a record.
func TestLayTold(t *testing.T) {
	draw := rand.New(rand.NewSource(6))
	for range 200 {
		seq := 1 + draw.Intn(math.MaxInt32)
		w, r := writes(draw.Intn(150)), revokes(draw.Intn(150))
		for i := range w {
			w[i].Block = draw.Intn(4096)
			draw.Read(w[i].Data)
			if draw.Intn(3) == 0 {
				// What stood in a journal once: a record as whole as any.
				w[i].Data = plainBlock(log.Record{Kind: 2, Seq: seq, Sum: draw.Uint32()})
			}
		}
		for i := range r {
			r[i] = draw.Intn(4096)
		}
		blocks, e := log.Lay(seq, w, r)
		if e != api.OK {
			t.Fatalf("Lay: %d", e)
		}
		gotW, gotR, ok := told(seq, blocks)
		if !ok || !slices.EqualFunc(gotW, w, sameWrite) || !slices.Equal(gotR, r) {
			t.Fatalf("told of %d writes, %d revokes: %d, %d, %t", len(w), len(r), len(gotW), len(gotR), ok)
		}
		marked := 0
		for _, b := range blocks {
			if bytes.HasPrefix(b, mark) {
				marked++
			}
		}
		if records := log.Need(len(w), len(r)) - len(w); marked != records {
			t.Fatalf("%d blocks begin with the mark, of %d records", marked, records)
		}
	}
}

// P7.5: each bit turned in one of the blocks is told.
func TestLayTurned(t *testing.T) {
	blocks, e := log.Lay(77, writes(4), revokes(3))
	if e != api.OK {
		t.Fatalf("Lay: %d", e)
	}
	for n, b := range blocks {
		for i := range 8 * 256 {
			b[i/8] ^= 1 << (i % 8)
			if _, _, ok := told(77, blocks); ok {
				t.Fatalf("block %d, bit %d: not told", n, i)
			}
			b[i/8] ^= 1 << (i % 8)
		}
	}
	if _, _, ok := told(77, blocks); !ok {
		t.Error("the whole one is not told")
	}
}

// R3: what is answered is new memory, no two blocks of which share any.
func TestLayShared(t *testing.T) {
	w := []api.Write{{Block: 3, Data: data(1, false)}, {Block: 4, Data: data(1, true)}}
	w = append(w, w...)
	r := revokes(70)
	want := plainLay(5, w, r)
	first, _ := log.Lay(5, w, r)
	second, _ := log.Lay(5, w, r)
	for i := range first {
		for k := range first[i] {
			first[i][k]++
		}
		first[i] = append(first[i], 1)
		for k := i + 1; k < len(first); k++ {
			if !bytes.Equal(first[k], want[k]) {
				t.Fatalf("block %d shares memory with block %d", i, k)
			}
		}
	}
	if !slices.EqualFunc(second, want, bytes.Equal) || !bytes.Equal(w[0].Data, data(1, false)) || !bytes.Equal(w[1].Data, data(1, true)) {
		t.Error("Lay shares memory")
	}
	clear(w[0].Data)
	clear(r)
	if !slices.EqualFunc(second, want, bytes.Equal) {
		t.Error("Lay keeps what it was given")
	}
}

// R1: no call panics, whatever it is given.
func TestNoPanic(t *testing.T) {
	numbers := append([]int{0, 1, 2, 3, 4, 5, 48, 60, 511, 4095, 4096}, far...)
	for _, x := range numbers {
		for _, y := range numbers {
			log.Need(x, y)
			log.Pack(log.Record{Kind: x, Seq: y, Start: x})
			log.Pack(log.Record{Kind: x, Seq: y, Entries: []log.Entry{{Block: x}}, Sum: math.MaxUint32})
			log.Pack(log.Record{Kind: x, Seq: 1, Entries: []log.Entry{{Block: y, Escaped: true}}, Start: y})
			log.Lay(x, []api.Write{{Block: y}}, []int{y})
			log.Lay(x, []api.Write{{Block: y, Data: data(1, false)}}, nil)
			log.Lay(x, nil, []int{y})
		}
	}
	for n := range 600 {
		b := bytes.Repeat([]byte{255}, n)
		log.Unpack(b)
		copy(b, head(1, 1, 65535))
		log.Unpack(b)
		log.Escape(b)
		log.Unescape(b, true)
	}
}
