package journal_test

import (
	"math"
	"testing"

	"hayrick/api"
	"hayrick/disk"
	"hayrick/journal"
	"hayrick/store"
)

// far are numbers that are far from what is counted here, and such that look near where bits are lost.
var far = []int{math.MinInt, math.MinInt + 1, -1 << 32, -1<<32 + 1, -1, 1<<30 + 1, 1 << 31, 1 << 32, 1<<32 + 1, math.MaxInt - 1, math.MaxInt}

// P8.1: a journal without handles, in which nothing is used, at the least and the greatest numbers.
func TestNew(t *testing.T) {
	for _, g := range []api.Geometry{example, small, odd, long} {
		for _, seq := range []int{1, 2, 1<<30 - 1, 1 << 30} {
			for _, at := range []int{0, 1, g.Journal - 3, g.Journal - 2} {
				r := begun(t, g, seq, at)
				r.place(seq, at, 0)
				r.commits(0)
				r.asked(false, false)
				r.stepOf(api.ErrWait)
				r.stops(1, api.EINVAL)
				r.starts(1, 1)
				if r.d.Ops() != 0 {
					t.Errorf("Ops: %d", r.d.Ops())
				}
			}
		}
	}
}

// P8.1: nothing and EINVAL of each thing that may not be.
func TestNewWrong(t *testing.T) {
	s, d := over(t, example.Blocks)
	refused := func(s *store.Store, d *disk.Disk, g api.Geometry, seq, at int) {
		t.Helper()
		if j, e := journal.New(s, d, g, seq, at); j != nil || e != api.EINVAL {
			t.Errorf("New(%d blocks, %d blocks, %v, %d, %d): %v %d", s.Blocks(), d.Blocks(), g, seq, at, j, e)
		}
	}
	none := api.Geometry{}
	for _, g := range []api.Geometry{example, none} {
		for _, x := range []*store.Store{nil, {}} {
			refused(x, d, g, 1, 0)
			refused(x, nil, g, 1, 0)
			refused(x, &disk.Disk{}, g, 1, 0)
		}
		refused(s, nil, g, 1, 0)
		refused(s, &disk.Disk{}, g, 1, 0)
	}
	for _, g := range []api.Geometry{
		none,
		{Blocks: 300, PerGroup: 200, Inodes: 16, Journal: 95},
		{Blocks: 300, PerGroup: 200, Inodes: 15, Journal: 96},
		{Blocks: 300, PerGroup: 108, Inodes: 16, Journal: 96},
		{Blocks: 300, PerGroup: 200, Inodes: 16, Journal: math.MinInt},
		{Blocks: 300, PerGroup: math.MaxInt, Inodes: math.MaxInt, Journal: math.MaxInt},
	} {
		refused(s, d, g, 1, 0)
	}
	less, lessDisk := over(t, 299)
	refused(less, d, example, 1, 0)
	refused(s, lessDisk, example, 1, 0)
	refused(less, lessDisk, example, 1, 0)
	more := example
	more.Blocks++
	refused(s, d, more, 1, 0)
	for _, seq := range append([]int{0}, far...) {
		refused(s, d, example, seq, 0)
	}
	for _, at := range append([]int{95, 96}, far...) {
		refused(s, d, example, 1, at)
	}
	if d.Ops() != 0 || s.Mark() != 0 {
		t.Error("a refused New did something")
	}
}

// P8.1: a nil journal, and one that New has not made, whatever was asked of them.
func TestNotMade(t *testing.T) {
	for _, j := range []*journal.Journal{nil, {}} {
		for range 2 {
			for _, n := range append([]int{0, 1, 64}, far...) {
				if h, e := j.Start(n); h != 0 || e != api.EINVAL {
					t.Errorf("Start(%d): %d %d", n, h, e)
				}
				if e := j.Stop(n); e != api.EINVAL {
					t.Errorf("Stop(%d): %d", n, e)
				}
			}
			j.Ask(false)
			j.Ask(true)
			if j.Busy() || j.May() || j.Cap() != 0 || j.Commits() != 0 {
				t.Errorf("Busy, May, Cap, Commits: %t %t %d %d", j.Busy(), j.May(), j.Cap(), j.Commits())
			}
			if e := j.Step(); e != api.ErrWait {
				t.Errorf("Step: %d", e)
			}
			if seq, tail, used := j.Place(); seq != 0 || tail != 0 || used != 0 {
				t.Errorf("Place: %d %d %d", seq, tail, used)
			}
		}
	}
}

// P8.1: Cap is three quarters of the ring, rounded down, less 4, whatever was done.
func TestCap(t *testing.T) {
	for _, x := range [][2]int{{96, 67}, {97, 68}, {98, 68}, {99, 69}, {100, 70}, {101, 71}, {511, 378}, {512, 379}} {
		g := api.Geometry{Blocks: 700, PerGroup: 700, Inodes: 16, Journal: x[0]}
		r := begun(t, g, 1, 0)
		cap := func() {
			t.Helper()
			if n := r.j.Cap(); n != x[1] {
				t.Errorf("Cap at a journal of %d: %d, want %d", x[0], n, x[1])
			}
		}
		cap()
		r.starts(1, 1)
		r.write(1, 600)
		cap()
		r.stops(1, api.OK)
		r.j.Ask(false)
		for _, x := range r.laid(1, 0, of(1, 600)) {
			r.stepOf(api.OK, x)
			cap()
		}
	}
}

// P8.2: handles are numbered from 1 on, whichever are stopped, and refused ones have no number.
func TestHandles(t *testing.T) {
	r := begun(t, example, 1, 0)
	r.starts(1, 1)
	r.starts(2, 2)
	r.startsNot(0, api.EINVAL)
	r.stops(1, api.OK)
	r.stops(1, api.EINVAL)
	r.starts(64, 3)
	r.startsNot(2, api.ErrWait)
	r.starts(1, 4)
	for _, h := range append([]int{0, 1, 5, 64}, far...) {
		r.stops(h, api.EINVAL)
	}
	for _, h := range []int{3, 4, 2} {
		r.stops(h, api.OK)
		r.stops(h, api.EINVAL)
	}
	r.starts(64, 5)
}

// P8.2: credits are 1 to MaxCredits: EINVAL counts ahead of ErrWait, and nothing is opened by it.
func TestCredits(t *testing.T) {
	r := begun(t, example, 1, 0)
	wrong := append([]int{0, 65, 66, 67, 68}, far...)
	for _, n := range wrong {
		r.startsNot(n, api.EINVAL)
	}
	r.starts(64, 1)
	r.startsNot(64, api.ErrWait)
	r.j.Ask(false)
	for _, n := range wrong {
		r.startsNot(n, api.EINVAL)
	}
	r.startsNot(1, api.ErrWait)
	r.startsNot(64, api.ErrWait)
	r.stops(1, api.OK)
	r.startsNot(1, api.ErrWait)
	r.stepOf(api.OK)
	r.starts(1, 2)
}

// P8.2: what is changed, what is promised to handles that are open, and what is asked for may be Cap together, and no more.
func TestRoom(t *testing.T) {
	for _, g := range []api.Geometry{example, odd} {
		r := begun(t, g, 1, 0)
		most := r.j.Cap()
		r.starts(30, 1)
		r.starts(20, 2)
		r.startsNot(most-49, api.ErrWait)
		r.starts(most-50, 3)
		r.startsNot(1, api.ErrWait)
		// Blocks that a handle changed count beside its credits, as long as it is open.
		r.stops(2, api.OK)
		r.write(1, 200, 201, 200, 202)
		r.startsNot(18, api.ErrWait)
		r.starts(17, 4)
		r.startsNot(1, api.ErrWait)
		for _, h := range []int{1, 3, 4} {
			r.stops(h, api.OK)
		}
		r.write(2, upTo(203, most-4)...)
		r.startsNot(2, api.ErrWait)
		r.starts(1, 5)
		r.startsNot(1, api.ErrWait)
		r.stops(5, api.OK)
		r.write(2, 299)
		r.startsNot(1, api.ErrWait)
		if e := r.s.Back(4); e != api.OK {
			t.Fatalf("Back: %d", e)
		}
		r.starts(64, 6)
		// Blocks that are held, and such as wait, don't count.
		r.stops(6, api.OK)
		r.hold(upTo(110, 80)...)
		r.s.Commit()
		r.starts(64, 7)
		r.startsNot(most-63, api.ErrWait)
		r.starts(most-64, 8)
	}
}

// P8.2: a commit that is wanted keeps handles from being opened until it has ended; it has to wait for those that are open.
func TestAsk(t *testing.T) {
	r := begun(t, example, 7, 3)
	r.starts(5, 1)
	r.starts(5, 2)
	r.write(1, 150)
	r.asked(false, false)
	r.stepOf(api.ErrWait)
	r.j.Ask(false)
	for _, h := range []int{1, 2} {
		r.asked(true, false)
		r.stepOf(api.ErrWait)
		r.startsNot(1, api.ErrWait)
		r.stops(3, api.EINVAL)
		r.stops(h, api.OK)
	}
	for _, x := range r.laid(7, 3, of(1, 150)) {
		r.asked(true, true)
		r.startsNot(1, api.ErrWait)
		r.commits(0)
		r.place(7, 3, 0)
		r.stepOf(api.OK, x)
	}
	r.asked(false, false)
	r.commits(1)
	r.place(8, 3, 3)
	r.stepOf(api.ErrWait)
	r.starts(1, 3)
}

// P8.2: a commit that is asked for again is that one; clean counts, if it was said once.
func TestAskAgain(t *testing.T) {
	for _, asks := range [][]bool{{true}, {false, true}, {true, false}, {true, true}, {false, true, false}} {
		r := begun(t, example, 1, 0)
		r.write(1, 150)
		for _, clean := range asks {
			r.j.Ask(clean)
		}
		r.steps(true, r.laid(1, 0, of(1, 150))...)
		r.steps(false, r.cleared(2, 3, of(1, 150)...)...)
		r.commits(1)
		r.place(2, 3, 0)
		r.stepOf(api.ErrWait)
		// It was said of that one alone.
		r.write(2, 151)
		r.j.Ask(false)
		r.j.Ask(false)
		r.steps(false, r.laid(2, 3, of(2, 151))...)
		r.commits(2)
		r.place(3, 3, 3)
	}
}
