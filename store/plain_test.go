package store_test

import (
	"bytes"
	"maps"
	"math/rand"
	"slices"
	"testing"

	"hayrick/api"
	"hayrick/disk"
	"hayrick/store"
)

// filled is a block of one byte, over and over.
func filled(x byte) []byte {
	return bytes.Repeat([]byte{x}, api.BlockSize)
}

// onDisk is a disk that must be made.
func onDisk(t *testing.T, blocks int) *disk.Disk {
	t.Helper()
	d, e := disk.New(blocks)
	if e != api.OK {
		t.Fatalf("disk.New(%d): %d", blocks, e)
	}
	return d
}

// over is a store that must be made.
func over(t *testing.T, d *disk.Disk, shards, room int) *store.Store {
	t.Helper()
	s, e := store.New(d, shards, room)
	if e != api.OK || s == nil {
		t.Fatalf("New(.., %d, %d): %v %d", shards, room, s, e)
	}
	return s
}

// made is a store over a disk of noughts, and the disk.
func made(t *testing.T, blocks, shards, room int) (*store.Store, *disk.Disk) {
	t.Helper()
	d := onDisk(t, blocks)
	return over(t, d, shards, room), d
}

// write is a Write that must not be refused.
func write(t *testing.T, s *store.Store, n int, x byte) {
	t.Helper()
	if e := s.Write(n, filled(x)); e != api.OK {
		t.Fatalf("Write(%d, ..): %d", n, e)
	}
}

// hold is a Hold that must not be refused.
func hold(t *testing.T, s *store.Store, n int) {
	t.Helper()
	if e := s.Hold(n); e != api.OK {
		t.Fatalf("Hold(%d): %d", n, e)
	}
}

// back is a Back that must not be refused, behind which Mark is that mark.
func back(t *testing.T, s *store.Store, mark int) {
	t.Helper()
	if e := s.Back(mark); e != api.OK {
		t.Fatalf("Back(%d): %d", mark, e)
	}
	marks(t, s, mark)
}

// home is a Home that must not be refused.
func home(t *testing.T, s *store.Store, n int) {
	t.Helper()
	if e := s.Home(n); e != api.OK {
		t.Fatalf("Home(%d): %d", n, e)
	}
}

// reads: does block n, which must be there, read as x over and over?
func reads(t *testing.T, s *store.Store, n int, x byte) {
	t.Helper()
	if b, e := s.Read(n); e != api.OK || !bytes.Equal(b, filled(x)) {
		t.Fatalf("Read(%d): %x %d, want %d all over", n, b, e, x)
	}
}

// marks: is it this mark that the store has?
func marks(t *testing.T, s *store.Store, want int) {
	t.Helper()
	if got := s.Mark(); got != want {
		t.Fatalf("Mark: %d, want %d", got, want)
	}
}

// changes: are just these blocks changed?
func changes(t *testing.T, s *store.Store, want ...int) {
	t.Helper()
	if got := s.Changed(); !slices.Equal(got, want) {
		t.Fatalf("Changed: %v, want %v", got, want)
	}
}

// waits: are just these blocks waiting, with these bytes?
func waits(t *testing.T, s *store.Store, want ...api.Write) {
	t.Helper()
	if got := s.Waiting(); !sameWrites(got, want) {
		t.Fatalf("Waiting: %v, want %v", briefs(got), briefs(want))
	}
}

// commits: does a Commit answer just these writes, behind which nothing is changed, and Mark is 0?
func commits(t *testing.T, s *store.Store, want ...api.Write) {
	t.Helper()
	if got := s.Commit(); !sameWrites(got, want) {
		t.Fatalf("Commit: %v, want %v", briefs(got), briefs(want))
	}
	changes(t, s)
	marks(t, s, 0)
}

// holds: of the blocks of the store, and of numbers around them, are just these held?
func holds(t *testing.T, s *store.Store, want ...int) {
	t.Helper()
	for n := -2; n < s.Blocks()+2; n++ {
		if got := s.Held(n); got != slices.Contains(want, n) {
			t.Fatalf("Held(%d): %t, want just %v", n, got, want)
		}
	}
}

// counts: does Counts tell these?
func counts(t *testing.T, s *store.Store, found, asked int) {
	t.Helper()
	if f, a := s.Counts(); f != found || a != asked {
		t.Fatalf("Counts: %d %d, want %d %d", f, a, found, asked)
	}
}

// cached: reads each of these blocks, which must be neither changed nor waiting: do those reads find it, or ask the disk, as finds says at its place?
func cached(t *testing.T, s *store.Store, blocks []int, finds []bool) {
	t.Helper()
	for i, n := range blocks {
		found, asked := s.Counts()
		if _, e := s.Read(n); e != api.OK {
			t.Fatalf("Read(%d): %d", n, e)
		}
		if finds[i] {
			counts(t, s, found+1, asked)
		} else {
			counts(t, s, found, asked+1)
		}
	}
}

func sameWrites(a, b []api.Write) bool {
	return slices.EqualFunc(a, b, func(x, y api.Write) bool {
		return x.Block == y.Block && bytes.Equal(x.Data, y.Data)
	})
}

// brief is a write by its block and its first byte.
type brief struct{ block, first int }

func briefs(l []api.Write) []brief {
	var out []brief
	for _, w := range l {
		out = append(out, brief{w.Block, int(append(slices.Clone(w.Data), 0)[0])})
	}
	return out
}

// plain is a store as the document tells it: of each Write and Hold since the last Commit it keeps the whole of what was changed and held ahead of it; its disk is a list, and its cache one row of numbers by their last use.
type plain struct {
	shards, room     int
	disk             [][]byte
	changed, waiting map[int][]byte
	held             map[int]bool
	past             []ahead
	used             []int
	found, asked     int
	home             []api.Write
}

type ahead struct {
	changed map[int][]byte
	held    map[int]bool
}

func newPlain(blocks, shards, room int) *plain {
	p := &plain{shards: shards, room: room, disk: make([][]byte, blocks), changed: map[int][]byte{}, waiting: map[int][]byte{}, held: map[int]bool{}}
	for n := range p.disk {
		p.disk[n] = filled(0)
	}
	return p
}

// uncache lets n be out of the cache, and tells whether it was in it.
func (p *plain) uncache(n int) bool {
	place := slices.Index(p.used, n)
	if place >= 0 {
		p.used = slices.Delete(p.used, place, place+1)
	}
	return place >= 0
}

func (p *plain) useLast(n int) {
	p.uncache(n)
	p.used = append(p.used, n)
	var alike []int
	for _, m := range p.used {
		if m%p.shards == n%p.shards {
			alike = append(alike, m)
		}
	}
	if len(alike) > p.room {
		p.uncache(alike[0])
	}
}

// look is a block's bytes, without a Read.
func (p *plain) look(n int) []byte {
	if b := p.changed[n]; b != nil {
		return b
	}
	if b := p.waiting[n]; b != nil {
		return b
	}
	return p.disk[n]
}

func (p *plain) read(n int) []byte {
	switch {
	case p.changed[n] != nil || p.waiting[n] != nil:
		p.found++
	case slices.Contains(p.used, n):
		p.found++
		p.useLast(n)
	default:
		p.asked++
		p.useLast(n)
	}
	return p.look(n)
}

func (p *plain) remember() {
	p.past = append(p.past, ahead{maps.Clone(p.changed), maps.Clone(p.held)})
}

func (p *plain) write(n int, b []byte) {
	p.remember()
	p.changed[n] = b
	p.uncache(n)
}

func (p *plain) hold(n int) {
	p.remember()
	p.held[n] = true
}

func (p *plain) back(mark int) {
	if mark == len(p.past) {
		return
	}
	was := p.past[mark]
	p.changed, p.held, p.past = was.changed, was.held, p.past[:mark]
}

func (p *plain) commit() []api.Write {
	l := inOrder(p.changed)
	maps.Copy(p.waiting, p.changed)
	p.changed, p.past = map[int][]byte{}, nil
	return l
}

// release lets nothing be held, and nothing come back that was held at some mark.
func (p *plain) release() {
	clear(p.held)
	for _, was := range p.past {
		clear(was.held)
	}
}

func (p *plain) goHome(n int) {
	p.disk[n] = p.waiting[n]
	p.home = append(p.home, api.Write{Block: n, Data: p.waiting[n]})
	delete(p.waiting, n)
	if p.changed[n] == nil {
		p.useLast(n)
	}
}

func inOrder(m map[int][]byte) []api.Write {
	var l []api.Write
	for n := range api.MaxBlocks {
		if m[n] != nil {
			l = append(l, api.Write{Block: n, Data: m[n]})
		}
	}
	return l
}

// same: is all that is told of s, without a Read, what the plain one says?
func same(t *testing.T, s *store.Store, p *plain) {
	t.Helper()
	if s.Blocks() != len(p.disk) {
		t.Fatalf("Blocks: %d, want %d", s.Blocks(), len(p.disk))
	}
	marks(t, s, len(p.past))
	changes(t, s, slices.Sorted(maps.Keys(p.changed))...)
	waits(t, s, inOrder(p.waiting)...)
	holds(t, s, slices.Collect(maps.Keys(p.held))...)
	counts(t, s, p.found, p.asked)
}

// drawn is a number of a block: most of them few ones, which come again and again.
func drawn(draw *rand.Rand, blocks int) int {
	if draw.Intn(8) == 0 {
		return draw.Intn(blocks)
	}
	return draw.Intn(12)
}

func drawnBlock(draw *rand.Rand) []byte {
	b := make([]byte, api.BlockSize)
	draw.Read(b)
	return b
}
