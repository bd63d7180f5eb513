package journal_test

import (
	"bytes"
	"iter"
	"slices"
	"testing"

	"hayrick/api"
	"hayrick/disk"
	"hayrick/journal"
	"hayrick/log"
	"hayrick/store"
)

// The chapter's own geometry, and others: the shortest journal and the next one, the longest.
var (
	example = api.Geometry{Blocks: 300, PerGroup: 200, Inodes: 16, Journal: 96}
	small   = api.Geometry{Blocks: 128, PerGroup: 128, Inodes: 8, Journal: 96}
	odd     = api.Geometry{Blocks: 300, PerGroup: 200, Inodes: 16, Journal: 97}
	long    = api.Geometry{Blocks: 700, PerGroup: 700, Inodes: 16, Journal: 512}
)

// filled is a block of one byte, over and over.
func filled(x byte) []byte { return bytes.Repeat([]byte{x}, api.BlockSize) }

// marked is a block that begins with the journal's own mark.
func marked(x byte) []byte {
	b := filled(x)
	copy(b, []byte{0x49, 0x52, 0x59, 0x48})
	return b
}

// over is a store over a disk of noughts, both of which must be made.
func over(t *testing.T, blocks int) (*store.Store, *disk.Disk) {
	t.Helper()
	d, e := disk.New(blocks)
	if e != api.OK {
		t.Fatalf("disk.New(%d): %d", blocks, e)
	}
	s, e := store.New(d, 3, 5)
	if e != api.OK {
		t.Fatalf("store.New: %d", e)
	}
	return s, d
}

// rig is a journal with its store and its disk.
type rig struct {
	*testing.T
	s    *store.Store
	d    *disk.Disk
	j    *journal.Journal
	ring int
}

// begun is a journal that must be made.
func begun(t *testing.T, g api.Geometry, seq, at int) *rig {
	t.Helper()
	s, d := over(t, g.Blocks)
	j, e := journal.New(s, d, g, seq, at)
	if e != api.OK || j == nil {
		t.Fatalf("New(.., %v, %d, %d): %v %d", g, seq, at, j, e)
	}
	return &rig{t, s, d, j, g.Journal - 1}
}

// write changes these blocks, each to what is told of it.
func (r *rig) write(x byte, blocks ...int) {
	r.Helper()
	for _, n := range blocks {
		r.put(n, filled(x))
	}
}

func (r *rig) put(n int, b []byte) {
	r.Helper()
	if e := r.s.Write(n, b); e != api.OK {
		r.Fatalf("Write(%d, ..): %d", n, e)
	}
}

func (r *rig) hold(blocks ...int) {
	r.Helper()
	for _, n := range blocks {
		if e := r.s.Hold(n); e != api.OK {
			r.Fatalf("Hold(%d): %d", n, e)
		}
	}
}

// starts: is a handle of this number opened?
func (r *rig) starts(credits, want int) {
	r.Helper()
	if h, e := r.j.Start(credits); h != want || e != api.OK {
		r.Fatalf("Start(%d): %d %d, want %d", credits, h, e, want)
	}
}

// startsNot: is a Start refused by this error?
func (r *rig) startsNot(credits int, want api.Errno) {
	r.Helper()
	if h, e := r.j.Start(credits); h != 0 || e != want {
		r.Fatalf("Start(%d): %d %d, want 0 %d", credits, h, e, want)
	}
}

func (r *rig) stops(handle int, want api.Errno) {
	r.Helper()
	if e := r.j.Stop(handle); e != want {
		r.Fatalf("Stop(%d): %d, want %d", handle, e, want)
	}
}

// asked: is a commit wanted, and may Step go on?
func (r *rig) asked(busy, may bool) {
	r.Helper()
	if b, m := r.j.Busy(), r.j.May(); b != busy || m != may {
		r.Fatalf("Busy, May: %t %t, want %t %t", b, m, busy, may)
	}
}

func (r *rig) place(seq, tail, used int) {
	r.Helper()
	if s, a, u := r.j.Place(); s != seq || a != tail || u != used {
		r.Fatalf("Place: %d %d %d, want %d %d %d", s, a, u, seq, tail, used)
	}
}

func (r *rig) commits(want int) {
	r.Helper()
	if n := r.j.Commits(); n != want {
		r.Fatalf("Commits: %d, want %d", n, want)
	}
}

// held: of all blocks, are just these held?
func (r *rig) held(want ...int) {
	r.Helper()
	for n := range r.s.Blocks() {
		if got := r.s.Held(n); got != slices.Contains(want, n) {
			r.Fatalf("Held(%d): %t", n, got)
		}
	}
}

// op is a step of the disk: a write; or a flush, if its block is below 0.
type op struct {
	block int
	data  []byte
}

// flush is the op that is one.
var flush = op{block: -1}

// steps: does each of as many Steps answer OK, and do its step of the disk, with the commit wanted till the last one, and behind it just if more says so?
func (r *rig) steps(more bool, want ...op) {
	r.Helper()
	for i, x := range want {
		r.asked(true, true)
		r.stepOf(api.OK, x)
		r.asked(more || i < len(want)-1, more || i < len(want)-1)
	}
}

// stepOf: does a Step answer this, and do just these steps of the disk?
func (r *rig) stepOf(want api.Errno, ops ...op) {
	r.Helper()
	pending, done := r.d.Pending(), r.d.Ops()
	if e := r.j.Step(); e != want {
		r.Fatalf("Step: %d, want %d", e, want)
	}
	for _, x := range ops {
		if x.block < 0 {
			pending = nil
		} else {
			pending = append(pending, api.Write{Block: x.block, Data: x.data})
		}
	}
	if got := r.d.Ops(); got != done+len(ops) {
		r.Fatalf("steps of the disk: %d, want %d", got-done, len(ops))
	}
	if got := r.d.Pending(); !sameWrites(got, pending) {
		r.Fatalf("pending: %v, want %v", briefs(got), briefs(pending))
	}
}

// laid are the steps of the disk of a transaction whose first block goes to a place of the ring.
func (r *rig) laid(seq, place int, writes []api.Write, revoked ...int) []op {
	r.Helper()
	blocks, e := log.Lay(seq, writes, revoked)
	if e != api.OK {
		r.Fatalf("log.Lay: %d", e)
	}
	var l []op
	for i, b := range blocks {
		if i == len(blocks)-1 {
			l = append(l, flush)
		}
		l = append(l, op{3 + (place+i)%r.ring, b})
	}
	return append(l, flush)
}

// cleared are the steps of the disk of a checkpoint that brings these blocks home.
func (r *rig) cleared(seq, start int, home ...api.Write) []op {
	r.Helper()
	b, e := log.Pack(log.Record{Kind: log.Head, Seq: seq, Start: start})
	if e != api.OK {
		r.Fatalf("log.Pack: %d", e)
	}
	var l []op
	for _, w := range home {
		l = append(l, op{w.Block, w.Data})
	}
	return append(l, flush, op{2, b}, flush)
}

// of are writes of one byte over and over.
func of(x byte, blocks ...int) []api.Write {
	var l []api.Write
	for _, n := range blocks {
		l = append(l, api.Write{Block: n, Data: filled(x)})
	}
	return l
}

// upTo are the numbers from first on, n of them.
func upTo(first, n int) []int {
	var l []int
	for i := range n {
		l = append(l, first+i)
	}
	return l
}

func sameWrites(a, b []api.Write) bool {
	return slices.EqualFunc(a, b, func(x, y api.Write) bool {
		return x.Block == y.Block && bytes.Equal(x.Data, y.Data)
	})
}

// brief is a write by its block and its first byte.
type brief struct{ block, first int }

func briefs(l []api.Write) []brief {
	var out []brief
	for _, w := range l {
		out = append(out, brief{w.Block, int(append(slices.Clone(w.Data), 0)[0])})
	}
	return out
}

// plain is a journal as the document tells it, over a store and a disk of its own: a commit is one function from front to end, which stops behind each step of the disk.
type plain struct {
	s             *store.Store
	d             *disk.Disk
	ring          int
	seq           int
	tail, used    int
	live          map[int]bool
	open          map[int]int
	last          int
	commits       int
	wanted, clean bool
	goOn          func() (api.Errno, bool)
}

func newPlain(t *testing.T, g api.Geometry, seq, at int) *plain {
	t.Helper()
	s, d := over(t, g.Blocks)
	return &plain{s: s, d: d, ring: g.Journal - 1, seq: seq, tail: at, live: map[int]bool{}, open: map[int]int{}}
}

func (p *plain) cap() int { return p.ring*3/4 - 4 }

func (p *plain) start(credits int) (int, api.Errno) {
	if credits < 1 || credits > 64 {
		return 0, api.EINVAL
	}
	sum := len(p.s.Changed()) + credits
	for _, n := range p.open {
		sum += n
	}
	if p.wanted || sum > p.cap() {
		return 0, api.ErrWait
	}
	p.last++
	p.open[p.last] = credits
	return p.last, api.OK
}

func (p *plain) stop(handle int) api.Errno {
	if p.open[handle] == 0 {
		return api.EINVAL
	}
	delete(p.open, handle)
	return api.OK
}

func (p *plain) ask(clean bool) {
	p.clean = p.clean || clean
	p.wanted = true
}

func (p *plain) may() bool { return p.wanted && len(p.open) == 0 }

func (p *plain) step() api.Errno {
	if !p.may() {
		return api.ErrWait
	}
	if p.goOn == nil {
		p.goOn, _ = iter.Pull(p.commit)
	}
	e, _ := p.goOn()
	if !p.wanted {
		p.goOn() // it returns
		p.goOn = nil
	}
	return e
}

// commit is all Steps of one, each with what it answers.
func (p *plain) commit(step func(api.Errno) bool) {
	for {
		changed := p.s.Changed()
		revoked := p.revoked(changed)
		if len(changed) == 0 && len(revoked) == 0 {
			if p.commitEnds(); p.wanted {
				p.checkpoint(step, true)
			} else {
				step(api.OK)
			}
			return
		}
		need := len(changed) + (len(changed)+47)/48 + (len(revoked)+59)/60 + 1
		if need > p.ring {
			p.wanted, p.clean = false, false
			step(api.ErrCredits)
			return
		}
		if need <= p.ring-p.used {
			p.lay(step, revoked)
			return
		}
		p.checkpoint(step, false)
	}
}

func (p *plain) revoked(changed []int) []int {
	var l []int
	for n := range p.s.Blocks() {
		if p.s.Held(n) && p.live[n] && !slices.Contains(changed, n) {
			l = append(l, n)
		}
	}
	return l
}

func (p *plain) lay(step func(api.Errno) bool, revoked []int) {
	writes := p.s.Commit()
	blocks, _ := log.Lay(p.seq, writes, revoked)
	for i, b := range blocks {
		if i == len(blocks)-1 {
			p.d.Flush()
			step(api.OK)
		}
		p.d.Write(3+(p.tail+p.used+i)%p.ring, b)
		step(api.OK)
	}
	p.d.Flush()
	p.used += len(blocks)
	p.seq++
	for _, w := range writes {
		p.live[w.Block] = true
	}
	p.commitEnds()
	more := p.wanted
	step(api.OK)
	if more {
		p.checkpoint(step, true)
	}
}

// commitEnds ends the commit part: one is still wanted then, if a checkpoint is to come.
func (p *plain) commitEnds() {
	p.commits++
	p.s.Release()
	if !p.clean || p.used == 0 && len(p.s.Waiting()) == 0 {
		p.wanted, p.clean = false, false
	}
}

func (p *plain) checkpoint(step func(api.Errno) bool, last bool) {
	for _, w := range p.s.Waiting() {
		p.s.Home(w.Block)
		step(api.OK)
	}
	p.d.Flush()
	step(api.OK)
	tail := (p.tail + p.used) % p.ring
	b, _ := log.Pack(log.Record{Kind: log.Head, Seq: p.seq, Start: tail})
	p.d.Write(2, b)
	step(api.OK)
	p.d.Flush()
	p.tail, p.used, p.live = tail, 0, map[int]bool{}
	if last {
		p.wanted, p.clean = false, false
	}
	step(api.OK)
}
