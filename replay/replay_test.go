package replay_test

import (
	"bytes"
	"math"
	"slices"
	"testing"

	"hayrick/api"
	"hayrick/disk"
	"hayrick/journal"
	"hayrick/log"
	"hayrick/replay"
	"hayrick/store"
)

// P9.1: Format writes the head and flushes, whatever stood on the disk; nothing else changes.
func TestFormat(t *testing.T) {
	for _, g := range all() {
		d, _ := disk.New(g.Blocks)
		for n := range g.Blocks {
			d.Write(n, filled(byte(n)))
		}
		ops := d.Ops()
		if e := replay.Format(d, g); e != api.OK {
			t.Fatalf("Format: %d", e)
		}
		if d.Ops() != ops+2 || len(d.Pending()) != 0 {
			t.Errorf("Ops %d, want 2; pending %d", d.Ops()-ops, len(d.Pending()))
		}
		for n, b := range blocksOf(t, d) {
			if n != 2 && !bytes.Equal(b, filled(byte(n))) {
				t.Errorf("block %d was changed", n)
			}
		}
		b, _ := d.Read(2)
		if x, e := log.Unpack(b); e != api.OK || x.Kind != log.Head || x.Seq != 1 || x.Start != 0 {
			t.Errorf("the head: %v %d", x, e)
		}
	}
}

// P9.1: Format and New answer EINVAL of what may not be, and do nothing.
func TestNotTogether(t *testing.T) {
	made, _ := disk.New(300)
	refused := func(d *disk.Disk, g api.Geometry) {
		t.Helper()
		if e := replay.Format(d, g); e != api.EINVAL {
			t.Errorf("Format(%d blocks, %v): %d", d.Blocks(), g, e)
		}
		if m, e := replay.New(d, g); m != nil || e != api.EINVAL {
			t.Errorf("New(%d blocks, %v): %v %d", d.Blocks(), g, m, e)
		}
	}
	for _, g := range []api.Geometry{example, {}} {
		refused(nil, g)
		refused(&disk.Disk{}, g)
	}
	for _, g := range []api.Geometry{
		{},
		{Blocks: 300, PerGroup: 200, Inodes: 16, Journal: 95},
		{Blocks: 300, PerGroup: 200, Inodes: 15, Journal: 96},
		{Blocks: 300, PerGroup: 108, Inodes: 16, Journal: 96},
		{Blocks: 300, PerGroup: 200, Inodes: 16, Journal: math.MinInt},
		{Blocks: 300, PerGroup: math.MaxInt, Inodes: math.MaxInt, Journal: math.MaxInt},
		{Blocks: 299, PerGroup: 200, Inodes: 16, Journal: 96},
		{Blocks: 301, PerGroup: 200, Inodes: 16, Journal: 96},
		small, long,
	} {
		refused(made, g)
	}
	if made.Ops() != 0 {
		t.Errorf("steps of the disk: %d", made.Ops())
	}
}

// P9.1: a nil machine, and one that New has not made.
func TestNotMade(t *testing.T) {
	for _, m := range []*replay.Machine{nil, {}} {
		r := rig{T: t, m: m}
		for range 3 {
			r.told(0, 0, 0, 0)
			r.steps(true, api.EINVAL)
		}
		r.told(0, 0, 0, 0)
	}
}

// P9.1, P9.3: the chapter's first example, of each geometry: behind Format nothing is to be laid home; nor is it behind a recovery.
func TestBehindFormat(t *testing.T) {
	for _, g := range all() {
		r := headed(t, g, 7, 3)
		if e := replay.Format(r.d, g); e != api.OK {
			t.Fatalf("Format: %d", e)
		}
		r.recovers(2, 0, 0)
		r.recovers(3, 0, 0)
	}
}

// P9.2 to P9.4: the chapter's second example.
func TestBehindJournal(t *testing.T) {
	d, _ := disk.New(300)
	replay.Format(d, example)
	s, _ := store.New(d, 4, 16)
	j, e := journal.New(s, d, example, 1, 0)
	if e != api.OK {
		t.Fatalf("journal.New: %d", e)
	}
	h, _ := j.Start(3)
	s.Write(150, filled(7))
	j.Stop(h)
	j.Ask(false)
	for range 5 {
		if e := j.Step(); e != api.OK {
			t.Fatalf("journal's Step: %d", e)
		}
	}
	d.Crash(nil)
	r := rig{T: t, g: example, d: d}
	r.recovers(3, 3, 1, to(7, 150)...)
	r.recovers(4, 3, 0)
	if b, _ := d.Read(150); !bytes.Equal(b, filled(7)) {
		t.Errorf("block 150: %x", b)
	}
}

// P9.2: block 2 must be a head.
func TestNoHead(t *testing.T) {
	head := log.Record{Kind: log.Head, Seq: 5, Start: 4}
	for _, g := range all() {
		r := headed(t, g, 5, 4)
		whole := r.pack(head)
		r.recovers(6, 4, 0)
		for _, b := range [][]byte{
			filled(0),
			filled(255),
			marked(0),
			r.revoked(5, 4)[0],
			r.copied(5, to(1, 150)...)[0],
			r.committed(5)[0],
		} {
			r.put(2, b)
			r.unclean()
		}
		for bit := range 8 * api.BlockSize {
			if g != small && bit%61 != 0 {
				continue
			}
			b := bytes.Clone(whole)
			b[bit/8] ^= 1 << (bit % 8)
			r.put(2, b)
			r.unclean()
		}
		// A head that stands in the ring helps nothing.
		r.rings(0, whole)
		r.unclean()
		r.put(2, whole)
		r.recovers(6, 4, 0)
	}
}

// P9.2: the least and the greatest numbers that a head may have.
func TestHeadsNumbers(t *testing.T) {
	for _, g := range all() {
		ring := g.Journal - 1
		for _, start := range []int{0, 1, ring - 1} {
			for _, seq := range []int{1, 2, 1<<30 - 2, 1<<30 - 1} {
				headed(t, g, seq, start).recovers(seq+1, start, 0)
			}
			// The number behind it would be too great; and so is its own.
			for _, seq := range []int{1 << 30, 1<<30 + 1, 1<<31 - 1} {
				headed(t, g, seq, start).unclean()
			}
		}
		for _, start := range []int{ring, ring + 1, api.MaxJournal - 1} {
			if start < api.MaxJournal {
				headed(t, g, 1, start).unclean()
			}
		}
	}
}

// P9.2: transactions may bring the next number up to 2^30, and no further.
func TestLastNumbers(t *testing.T) {
	const most = 1 << 30
	for found := range 4 {
		for below := range 6 {
			r := headed(t, example, most-below, 90)
			place := 90
			var home []op
			for i := range found {
				l := to(byte(i), 200+i)
				place = r.lays(place, most-below+i, l)
				home = append(home, l...)
			}
			// The first that is not there is most - below + found.
			if found-below+1 > 0 {
				r.unclean()
			} else {
				r.recovers(most-below+found+1, place, found, home...)
			}
		}
	}
}

// P9.3: what is wrong is told again and again, and nothing is written, even when the disk is mended meanwhile.
func TestUncleanStays(t *testing.T) {
	r := headed(t, example, 1, 0)
	r.lays(0, 1, append(to(1, 150), to(2, 5)...))
	r.begin()
	r.steps(true, api.EUCLEAN)
	r.lays(0, 1, to(1, 150, 151))
	for range 3 {
		r.steps(true, api.EUCLEAN)
		r.told(0, 0, 0, 0)
	}
	r.recovers(3, 4, 1, to(1, 150, 151)...)
}

// P9.2, P9.3: the first Step reads, not New; what comes to the ring later is not seen.
func TestReadOnce(t *testing.T) {
	r := headed(t, example, 1, 0)
	r.begin()
	place := r.lays(0, 1, to(7, 150, 151))
	r.lays(place, 2, to(8, 152))
	r.steps(false, api.OK, to(7, 150)...)
	for n := 2; n < 98; n++ {
		r.put(n, filled(0))
	}
	r.steps(false, api.OK, to(7, 151)...)
	r.steps(false, api.OK, to(8, 152)...)
	r.steps(false, api.OK, flush)
	r.told(4, 7, 2, 3)
	r.steps(false, api.OK, op{2, r.pack(log.Record{Kind: log.Head, Seq: 4, Start: 7})})
	r.steps(true, api.OK, flush)
	r.steps(true, api.OK)
}

// P9.2: what is pending is read as what stands for good; flushes let it stand.
func TestPendingIsRead(t *testing.T) {
	r := headed(t, example, 1, 0)
	blocks := r.committed(1, r.copied(1, to(7, 150)...))
	for i, b := range blocks {
		r.d.Write(3+i, b)
	}
	r.recovers(3, 3, 1, to(7, 150)...)
}

// P9.3: behind a crash at any of its Steps another recovery does the same again; behind the last one none does anything.
func TestCrashAtEachStep(t *testing.T) {
	home := slices.Concat(to(1, 150, 151), to(2, 150), to(3, 299, 0))
	for steps := range len(home) + 4 {
		for kept := range 64 {
			r := headed(t, example, 9, 93)
			r.lays(r.lays(93, 9, home[:2]), 10, home[2:])
			was := r.d.Copy()
			r.begin()
			for range steps {
				r.m.Step()
			}
			keep := make([]bool, len(r.d.Pending()))
			for i := range keep {
				keep[i] = kept>>i&1 == 1
			}
			r.d.Crash(keep)
			wrote := steps == len(home)+2 && kept&1 == 1
			if steps < len(home)+3 && !wrote {
				r.recovers(12, 7, 2, home...)
			} else {
				r.recovers(13, 7, 0)
			}
			want := blocksOf(t, was)
			want[150], want[151], want[299], want[0] = filled(2), filled(1), filled(3), filled(3)
			for n, b := range r.blocks() {
				if n != 2 && !bytes.Equal(b, want[n]) {
					t.Fatalf("crash behind %d steps, which keeps %b: block %d: %d ..", steps, kept, n, b[0])
				}
			}
		}
	}
}
