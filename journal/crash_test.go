package journal_test

import (
	"bytes"
	"math/rand"
	"slices"
	"testing"

	"hayrick/api"
	"hayrick/disk"
	"hayrick/journal"
	"hayrick/log"
	"hayrick/store"
)

// tale is what transactions through a journal made, in order.
type tale struct {
	*rig
	g     api.Geometry
	draw  *rand.Rand
	now   [][]byte // the blocks as those who change them see them
	loose []bool   // those that were held, and not changed since: they may hold anything that they held once
	past  []moment // behind each transaction; at first as all was
}

type moment struct {
	blocks [][]byte
	loose  []bool
}

func newTale(t *testing.T, g api.Geometry, seed int64) *tale {
	t.Helper()
	draw := rand.New(rand.NewSource(seed))
	seq, at := 1+draw.Intn(1000), draw.Intn(g.Journal-1)
	// What a mount leaves: a head, and in the ring what stood there once.
	s, d := over(t, g.Blocks)
	for n := range g.Journal - 1 {
		old, _ := log.Lay(1+draw.Intn(1000), nil, nil)
		d.Write(3+n, old[0])
	}
	head, _ := log.Pack(log.Record{Kind: log.Head, Seq: seq, Start: at})
	d.Write(2, head)
	d.Flush()
	j, e := journal.New(s, d, g, seq, at)
	if e != api.OK {
		t.Fatalf("New: %d", e)
	}
	w := &tale{rig: &rig{t, s, d, j, g.Journal - 1}, g: g, draw: draw, now: make([][]byte, g.Blocks), loose: make([]bool, g.Blocks)}
	for n := range w.now {
		w.now[n] = filled(0)
	}
	w.remember()
	return w
}

func (w *tale) remember() {
	w.past = append(w.past, moment{slices.Clone(w.now), slices.Clone(w.loose)})
}

// someBlock is the number of a block outside of the journal: most of them few ones.
func (w *tale) someBlock() int {
	if w.draw.Intn(30) == 0 {
		return w.draw.Intn(2)
	}
	n := 2 + w.g.Journal
	if w.draw.Intn(2) == 0 {
		return n + w.draw.Intn(w.g.Blocks-n)
	}
	return n + w.draw.Intn(8)
}

// handles opens some, each of which changes at most as many blocks as it has credits, and gives some back.
func (w *tale) handles() {
	w.Helper()
	var open []int
	for range 1 + w.draw.Intn(4) {
		credits := 1 + w.draw.Intn(1+w.draw.Intn(64))
		h, e := w.j.Start(credits)
		if e == api.ErrWait {
			break
		}
		if e != api.OK {
			w.Fatalf("Start(%d): %d", credits, e)
		}
		open = append(open, h)
		for range w.draw.Intn(credits + 1) {
			n, b := w.someBlock(), filled(byte(w.draw.Intn(256)))
			if w.draw.Intn(4) == 0 {
				b = marked(byte(w.draw.Intn(256)))
			}
			w.put(n, b)
			w.now[n], w.loose[n] = b, false
		}
		for range w.draw.Intn(3) {
			if n := w.someBlock(); !slices.Contains(w.s.Changed(), n) {
				w.hold(n)
				w.loose[n] = true
			}
		}
	}
	for _, h := range open {
		w.stops(h, api.OK)
	}
}

// recovered are the blocks of a disk once all whole transactions of its journal are laid home, as chapter 9 says.
func recovered(t *testing.T, d *disk.Disk, g api.Geometry) [][]byte {
	t.Helper()
	var blocks [][]byte
	for n := range d.Blocks() {
		b, _ := d.Read(n)
		blocks = append(blocks, b)
	}
	head, e := log.Unpack(blocks[2])
	if e != api.OK || head.Kind != log.Head {
		t.Fatalf("block 2 is no head: %v %d", head, e)
	}
	var writes [][]api.Write
	revoked := map[int]int{} // the last transaction that does
	seq, at, unread := head.Seq, head.Start, g.Journal-1
	for {
		l, held, used := transaction(blocks[3:2+g.Journal], seq, at, unread)
		if used == 0 {
			break
		}
		for _, n := range held {
			revoked[n] = len(writes)
		}
		writes = append(writes, l)
		seq, at, unread = seq+1, at+used, unread-used
	}
	for i, l := range writes {
		for _, w := range l {
			if by, is := revoked[w.Block]; !is || by <= i {
				blocks[w.Block] = w.Data
			}
		}
	}
	return blocks
}

// transaction is the one of that number at a place of a ring: what it writes, what it revokes, how many places it takes; none, if it isn't whole.
func transaction(ring [][]byte, seq, at, unread int) ([]api.Write, []int, int) {
	var writes []api.Write
	var revoked []int
	var ahead []byte
	place := func(n int) []byte { return ring[(at+n)%len(ring)] }
	for used := 0; used < unread; used++ {
		r, e := log.Unpack(place(used))
		if e != api.OK || r.Seq != seq || r.Kind == log.Head {
			return nil, nil, 0
		}
		if r.Kind == log.Commit {
			if again, _ := log.Lay(seq, writes, revoked); !bytes.Equal(bytes.Join(again, nil), append(ahead, place(used)...)) {
				return nil, nil, 0
			}
			return writes, revoked, used + 1
		}
		ahead = append(ahead, place(used)...)
		for _, x := range r.Entries {
			if r.Kind == log.Revoke {
				revoked = append(revoked, x.Block)
				continue
			}
			if used++; used == unread {
				return nil, nil, 0
			}
			ahead = append(ahead, place(used)...)
			writes = append(writes, api.Write{Block: x.Block, Data: log.Unescape(place(used), x.Escaped)})
		}
	}
	return nil, nil, 0
}

// is: are blocks, but for the journal's and those that are loose, as they were at that moment?
func (m moment) is(blocks [][]byte, g api.Geometry) bool {
	for n, b := range blocks {
		if (n < 2 || n >= 2+g.Journal) && !m.loose[n] && !bytes.Equal(b, m.blocks[n]) {
			return false
		}
	}
	return true
}

// crash lets a copy of the disk crash, which keeps nothing of what was not flushed, or all, or some: is what is recovered what the first transactions made, at least so many of them?
func (w *tale) crash(least int) {
	w.Helper()
	for _, odds := range []int{0, 100, 20 + w.draw.Intn(60)} {
		d := w.d.Copy()
		keep := make([]bool, len(d.Pending()))
		for i := range keep {
			keep[i] = w.draw.Intn(100) < odds
		}
		d.Crash(keep)
		blocks := recovered(w.T, d, w.g)
		if !slices.ContainsFunc(w.past[least:], func(m moment) bool { return m.is(blocks, w.g) }) {
			w.Fatalf("behind a crash that keeps %v the disk holds what no %d or more of %d transactions made", keep, least, len(w.past)-1)
		}
	}
}

// P8.4: wherever a crash comes, what is recovered is what the first transactions made, with all that were committed. No Step answers ErrCredits, and each commit ends in time.
func TestCrashes(t *testing.T) {
	for seed, g := range []api.Geometry{example, small, odd, long} {
		w := newTale(t, g, int64(41+seed))
		for range 30 {
			for range 1 + w.draw.Intn(3) {
				w.handles()
			}
			w.within(w.s.Changed())
			ended := len(w.past) - 1
			was, _, _ := w.j.Place()
			w.remember()
			w.j.Ask(w.draw.Intn(8) == 0)
			steps := 0
			for ; w.j.Busy(); steps++ {
				if e := w.j.Step(); e != api.OK {
					t.Fatalf("Step: %d", e)
				}
				least := ended
				if seq, _, _ := w.j.Place(); seq != was {
					least++
				}
				// All crashes of a great disk would take long.
				if g.Blocks <= 300 || w.draw.Intn(10) == 0 {
					w.crash(least)
				}
			}
			if seq, _, _ := w.j.Place(); seq == was {
				// Nothing was laid: what is loose is so since the transaction ahead.
				w.past = slices.Delete(w.past, ended, ended+1)
			}
			if steps > 4*w.ring+20 {
				t.Fatalf("a commit of %d Steps", steps)
			}
		}
	}
}

// within: is no more changed than may be?
func (w *tale) within(changed []int) {
	w.Helper()
	if len(changed) > w.j.Cap() {
		w.Fatalf("%d blocks are changed, of %d", len(changed), w.j.Cap())
	}
}

// P8.4: what is written home was committed ahead, and flushed: its copy can be read, in a whole transaction, of what a crash that keeps nothing leaves.
func TestHomeIsCommitted(t *testing.T) {
	w := newTale(t, example, 51)
	homes := 0
	for range 80 {
		w.handles()
		w.j.Ask(w.draw.Intn(3) == 0)
		for w.j.Busy() {
			pending := len(w.d.Pending())
			kept := w.d.Copy()
			kept.Crash(nil)
			if e := w.j.Step(); e != api.OK {
				t.Fatalf("Step: %d", e)
			}
			l := w.d.Pending()
			if len(l) <= pending {
				continue
			}
			last := l[len(l)-1]
			if last.Block >= 2 && last.Block < 2+w.g.Journal {
				continue
			}
			homes++
			if b := recovered(t, kept, w.g)[last.Block]; !bytes.Equal(b, last.Data) && !w.loose[last.Block] {
				t.Fatalf("block %d goes home as it was not committed", last.Block)
			}
		}
	}
	if homes < 300 {
		t.Errorf("%d blocks went home: the draw asks too little", homes)
	}
}

// P8.4: handles that together change all that Cap allows, of blocks that were all copied and given back ahead, are not refused; a commit of theirs takes at most as many Steps as are promised.
func TestMostAtOnce(t *testing.T) {
	for _, g := range []api.Geometry{example, small, odd, long} {
		r := begun(t, g, 1, 0)
		for round := range 12 {
			first := (round % 2) * 2
			n := 0
			var open []int
			for credits := min(64, r.j.Cap()); credits > 0; {
				h, e := r.j.Start(credits)
				if e != api.OK {
					credits--
					continue
				}
				open = append(open, h)
				n += credits
			}
			for i, h := range open {
				if h != open[0]+i {
					t.Fatalf("handles: %v", open)
				}
			}
			blocks := upTo(2+g.Journal+first, min(n, g.Blocks-4-g.Journal))
			r.write(byte(round), blocks...)
			for m := range g.Blocks {
				r.hold(m)
			}
			for _, h := range open {
				r.stops(h, api.OK)
			}
			if n != r.j.Cap() {
				t.Errorf("credits: %d of %d", n, r.j.Cap())
			}
			r.j.Ask(true)
			steps := r.ends()
			if steps > 4*r.ring+20 {
				t.Errorf("%d Steps at a ring of %d", steps, r.ring)
			}
		}
	}
}

// ends does all Steps of a commit, none of which may be refused: how many?
func (r *rig) ends() int {
	r.Helper()
	steps := 0
	for ; r.j.Busy(); steps++ {
		if e := r.j.Step(); e != api.OK {
			r.Fatalf("Step: %d", e)
		}
	}
	return steps
}

// R3: what is laid is the journal's own: no list that the store told, or was given, is shared.
func TestNothingShared(t *testing.T) {
	r := begun(t, example, 1, 0)
	b := filled(7)
	r.put(150, b)
	r.j.Ask(true)
	l := append(r.laid(1, 0, of(7, 150)), r.cleared(2, 3, of(7, 150)...)...)
	for i, x := range l {
		clear(b)
		for _, w := range append(r.s.Waiting(), r.d.Pending()...) {
			clear(w.Data)
		}
		r.stepOf(api.OK, x)
		r.asked(i < len(l)-1, i < len(l)-1)
	}
}

// R1: calls with numbers that are far off, in any order, end without a panic, whatever the store and the disk hold.
func TestNoPanic(t *testing.T) {
	numbers := append([]int{0, 1, 2, 63, 64, 65, 95}, far...)
	draw := rand.New(rand.NewSource(61))
	for range 20 {
		r := begun(t, small, 1<<30, 94)
		for range 300 {
			x := numbers[draw.Intn(len(numbers))]
			switch draw.Intn(8) {
			case 0:
				r.j.Start(x)
			case 1:
				r.j.Stop(x)
			case 2:
				r.j.Ask(x > 0)
			case 3:
				r.s.Write(draw.Intn(128), filled(byte(x)))
			case 4:
				r.s.Hold(draw.Intn(128))
			case 5:
				for _, w := range foreign(r.s, draw) {
					r.s.Home(w.Block)
				}
			default:
				r.j.Step()
			}
			r.j.Place()
			r.j.May()
		}
	}
}

// foreign are blocks that somebody who isn't the journal brings home, having committed them or not.
func foreign(s *store.Store, draw *rand.Rand) []api.Write {
	if draw.Intn(4) == 0 {
		s.Commit()
	}
	l := s.Waiting()
	return l[:draw.Intn(len(l)+1)]
}
