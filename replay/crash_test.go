package replay_test

import (
	"bytes"
	"math/rand"
	"slices"
	"testing"

	"hayrick/api"
	"hayrick/disk"
	"hayrick/journal"
	"hayrick/replay"
	"hayrick/store"
)

// tale is what transactions make of a disk, from one recovery to the next.
type tale struct {
	*testing.T
	*rand.Rand
	g    api.Geometry
	d    *disk.Disk
	s    *store.Store
	j    *journal.Journal
	now  moment   // as those who change the blocks see them
	past []moment // behind each transaction; at first as the recovery left them
	// How many of them have ended, and the most that one recovery found.
	ended, found int
}

// moment is all blocks at one time. One that is loose was held, and not changed since: it may hold anything that it held longer ago.
type moment struct {
	blocks [][]byte
	loose  []bool
}

// is: are blocks, but for the journal's, as they were then?
func (m moment) is(blocks [][]byte, g api.Geometry) bool {
	for n, b := range blocks {
		if (n < 2 || n > 1+g.Journal) && !m.loose[n] && !bytes.Equal(b, m.blocks[n]) {
			return false
		}
	}
	return true
}

func (m moment) twin() moment { return moment{slices.Clone(m.blocks), slices.Clone(m.loose)} }

// keeps are draws for the pending writes of a disk: nothing is kept, or all, or some.
func (w *tale) keeps(d *disk.Disk) []bool {
	odds := []int{0, 100, 20 + w.Intn(60)}[w.Intn(3)]
	keep := make([]bool, len(d.Pending()))
	for i := range keep {
		keep[i] = w.Intn(100) < odds
	}
	return keep
}

// recovery does at most so many Steps of a new one: has it ended?
func (w *tale) recovery(d *disk.Disk, most int) (*replay.Machine, bool) {
	w.Helper()
	m, e := replay.New(d, w.g)
	if e != api.OK {
		w.Fatalf("New: %d", e)
	}
	for range most {
		end, e := m.Step()
		if e != api.OK {
			w.Fatalf("Step: %d", e)
		}
		if end {
			return m, true
		}
	}
	return m, false
}

// recovered lets a disk be recovered, with crashes behind drawn Steps, till a recovery ends.
func (w *tale) recovered(d *disk.Disk) *replay.Machine {
	w.Helper()
	for range w.Intn(4) {
		w.recovery(d, w.Intn(1+w.Intn(60)))
		d.Crash(w.keeps(d))
	}
	m, _ := w.recovery(d, 10000)
	return m
}

// mount lets the disk be recovered, and its journal go on from there.
func (w *tale) mount() {
	w.Helper()
	m := w.recovered(w.d)
	seq, at := m.Place()
	s, e := store.New(w.d, 3, 5)
	if e != api.OK {
		w.Fatalf("store.New: %d", e)
	}
	j, e := journal.New(s, w.d, w.g, seq, at)
	if e != api.OK {
		w.Fatalf("journal.New: %d", e)
	}
	w.s, w.j = s, j
	w.now = moment{blocksOf(w.T, w.d), make([]bool, w.g.Blocks)}
	if w.past != nil {
		w.told(w.now.blocks, w.ended)
	}
	w.past, w.ended = []moment{w.now.twin()}, 0
}

// block is the number of one outside of the journal: most of them few ones.
func (w *tale) block() int {
	data := 2 + w.g.Journal
	switch w.Intn(20) {
	case 0:
		return w.Intn(2)
	case 1, 2, 3, 4:
		return data + w.Intn(w.g.Blocks-data)
	}
	return data + w.Intn(9)
}

// change lets a handle change some blocks, and give some back.
func (w *tale) change() {
	w.Helper()
	credits := 1 + w.Intn(1+w.Intn(64))
	h, e := w.j.Start(credits)
	if e == api.ErrWait {
		return
	}
	for range w.Intn(credits + 1) {
		n, b := w.block(), filled(byte(w.Intn(256)))
		if w.Intn(4) == 0 {
			b = marked(byte(w.Intn(256)))
		}
		w.s.Write(n, b)
		w.now.blocks[n], w.now.loose[n] = b, false
	}
	for range w.Intn(3) {
		if n := w.block(); !slices.Contains(w.s.Changed(), n) {
			w.s.Hold(n)
			w.now.loose[n] = true
		}
	}
	if w.j.Stop(h) != api.OK || e != api.OK {
		w.Fatalf("a handle: %d", e)
	}
}

// crashes: does a copy of the disk that crashes now hold, once it is recovered, what the first transactions made, at least so many? Does it so wherever the recovery crashes?
func (w *tale) crashes(least int, everywhere bool) {
	w.Helper()
	d := w.d.Copy()
	d.Crash(w.keeps(d))
	first := d.Copy()
	m, _ := w.recovery(first, 10000)
	found, laid := m.Found()
	w.found = max(w.found, found)
	want := blocksOf(w.T, first)
	w.told(want, least)
	steps, last := 0, laid+3
	if !everywhere {
		steps = w.Intn(laid + 4)
		last = steps
	}
	for ; steps <= last; steps++ {
		again := d.Copy()
		w.recovery(again, steps)
		again.Crash(w.keeps(again))
		w.recovered(again)
		w.nothingLeft(again, want)
	}
}

// told: do blocks hold what some of the transactions made, at least so many of the first?
func (w *tale) told(blocks [][]byte, least int) {
	w.Helper()
	if !slices.ContainsFunc(w.past[least:], func(m moment) bool { return m.is(blocks, w.g) }) {
		w.Fatalf("the disk holds what no %d or more of %d transactions made", least, len(w.past)-1)
	}
}

// nothingLeft: does a disk that was recovered hold these blocks, and has another recovery nothing to lay home?
func (w *tale) nothingLeft(d *disk.Disk, want [][]byte) {
	w.Helper()
	m, _ := w.recovery(d, 10000)
	if found, laid := m.Found(); found != 0 || laid != 0 {
		w.Fatalf("behind a recovery %d transactions are there, and %d copies are to be laid home", found, laid)
	}
	for n, b := range blocksOf(w.T, d) {
		if n != 2 && !bytes.Equal(b, want[n]) {
			w.Fatalf("behind a recovery that crashed block %d holds something else", n)
		}
	}
}

// life is some transactions through one store and one journal, till the disk crashes.
func (w *tale) life() {
	w.Helper()
	last := 1 + w.Intn(12)
	for range last - 1 {
		w.commit(10000)
	}
	w.commit(w.Intn(40))
	w.d.Crash(w.keeps(w.d))
}

// commit lets some handles change blocks, and does at most so many Steps of a commit.
func (w *tale) commit(most int) {
	w.Helper()
	for range 1 + w.Intn(3) {
		w.change()
	}
	was, _, _ := w.j.Place()
	w.past = append(w.past, w.now.twin())
	w.j.Ask(w.Intn(6) == 0)
	for steps := 0; w.j.Busy() && steps < most; steps++ {
		if e := w.j.Step(); e != api.OK {
			w.Fatalf("the journal's Step: %d", e)
		}
		if seq, _, _ := w.j.Place(); seq != was {
			w.ended = len(w.past) - 1
		}
		// All crashes would take long.
		if w.Intn(3) == 0 {
			w.crashes(w.ended, w.Intn(60) == 0)
		}
	}
	if seq, _, _ := w.j.Place(); seq == was && !w.j.Busy() {
		// Nothing was laid: so nothing is loose that was not so behind the transaction ahead.
		w.past = w.past[:len(w.past)-1]
	}
}

// P9.5: what was committed stays, all or nothing: from one recovery to the next, wherever crashes come, whatever they keep.
func TestCrashes(t *testing.T) {
	for seed, g := range all() {
		d, _ := disk.New(g.Blocks)
		if e := replay.Format(d, g); e != api.OK {
			t.Fatalf("Format: %d", e)
		}
		w := &tale{T: t, Rand: rand.New(rand.NewSource(int64(91 + seed))), g: g, d: d}
		lives := 40
		if g == long {
			lives = 6
		}
		for range lives {
			w.mount()
			w.life()
		}
		if w.found < 4 {
			t.Errorf("%v: %d transactions at one time: the draw asks too little", g, w.found)
		}
	}
}
