package journal_test

import (
	"fmt"
	"maps"
	"math/rand"
	"slices"
	"testing"

	"hayrick/api"
	"hayrick/store"
)

// twins are a journal and a plain one, to which the same is done.
type twins struct {
	*rig
	p    *plain
	draw *rand.Rand
	data int // the first block that is drawn
}

// both does one thing to both stores, which must answer the same.
func (w *twins) both(what string, do func(*store.Store) any) {
	w.Helper()
	if got, want := fmt.Sprint(do(w.s)), fmt.Sprint(do(w.p.s)); got != want {
		w.Fatalf("%s: %s, want %s", what, got, want)
	}
}

// block is the number of a drawn one: most of them few ones, which come again and again.
func (w *twins) block() int {
	if w.draw.Intn(3) == 0 {
		return w.data + w.draw.Intn(w.s.Blocks()-w.data)
	}
	return w.data + w.draw.Intn(9)
}

// bytes are a drawn block's, some of which begin with the journal's own mark.
func (w *twins) bytes() []byte {
	b := filled(0)
	w.draw.Read(b)
	if w.draw.Intn(4) == 0 {
		copy(b, marked(0)[:4])
	}
	return b
}

// change does one drawn call to the stores.
func (w *twins) change() {
	w.Helper()
	n, b := w.block(), w.bytes()
	switch k := w.draw.Intn(40); {
	case k < 22:
		w.both("Write", func(s *store.Store) any { return s.Write(n, b) })
	case k < 34:
		w.both("Hold", func(s *store.Store) any { return s.Hold(n) })
	case k < 36:
		w.both("Read", func(s *store.Store) any { b, e := s.Read(n); return fmt.Sprint(b, e) })
	default:
		mark := w.draw.Intn(w.s.Mark() + 1)
		w.both("Back", func(s *store.Store) any { return s.Back(mark) })
	}
}

// handle does one drawn call of handles.
func (w *twins) handle() {
	w.Helper()
	if w.draw.Intn(3) == 0 {
		n := w.draw.Intn(70) - 2
		h, e := w.p.start(n)
		if e != api.OK {
			w.startsNot(n, e)
		} else {
			w.starts(n, h)
		}
		return
	}
	h := w.p.last - w.draw.Intn(4)
	if w.p.wanted && len(w.p.open) > 0 {
		// Else a draw would seldom come to a Step.
		h = slices.Min(slices.Collect(maps.Keys(w.p.open)))
	}
	w.stops(h, w.p.stop(h))
}

// step does a Step of both.
func (w *twins) step() api.Errno {
	w.Helper()
	want := w.p.step()
	if e := w.j.Step(); e != want {
		w.Fatalf("Step: %d, want %d", e, want)
	}
	return want
}

// same: is all that is told of both the same?
func (w *twins) same() {
	w.Helper()
	w.place(w.p.seq, w.p.tail, w.p.used)
	w.commits(w.p.commits)
	w.asked(w.p.wanted, w.p.may())
	if got, want := w.d.Ops(), w.p.d.Ops(); got != want {
		w.Fatalf("the disk's Ops: %d, want %d", got, want)
	}
	if got, want := w.d.Pending(), w.p.d.Pending(); !sameWrites(got, want) {
		w.Fatalf("pending: %v, want %v", briefs(got), briefs(want))
	}
	if got, want := w.s.Changed(), w.p.s.Changed(); !slices.Equal(got, want) {
		w.Fatalf("Changed: %v, want %v", got, want)
	}
	if got, want := w.s.Waiting(), w.p.s.Waiting(); !sameWrites(got, want) {
		w.Fatalf("Waiting: %v, want %v", briefs(got), briefs(want))
	}
	for n := range w.s.Blocks() {
		if got, want := w.s.Held(n), w.p.s.Held(n); got != want {
			w.Fatalf("Held(%d): %t, want %t", n, got, want)
		}
	}
}

// P8.1 to P8.3: any calls in any order do to a journal, its store and its disk what they do to a plain one.
func TestPlainJournal(t *testing.T) {
	for i, g := range []api.Geometry{example, small, odd, long} {
		draw := rand.New(rand.NewSource(int64(21 + i)))
		seq, at := 1+draw.Intn(1<<30), draw.Intn(g.Journal-1)
		w := &twins{rig: begun(t, g, seq, at), p: newPlain(t, g, seq, at), draw: draw, data: 2 + g.Journal}
		refused := 0
		for range 10000 {
			switch k := draw.Intn(40); {
			case k < 10:
				w.change()
			case k < 17:
				w.handle()
			case k < 19:
				clean := draw.Intn(6) == 0
				w.j.Ask(clean)
				w.p.ask(clean)
			case k == 19 && draw.Intn(20) == 0:
				// More than a ring has room for.
				b := w.bytes()
				for n := w.data; n < min(w.data+120, w.s.Blocks()); n++ {
					w.both("Write", func(s *store.Store) any { return s.Write(n, b) })
				}
			default:
				if w.step() == api.ErrCredits {
					refused++
					w.both("Back", func(s *store.Store) any { return s.Back(0) })
				}
			}
			w.same()
		}
		if w.p.commits < 50 || refused == 0 && g == example {
			t.Errorf("at %v: %d commits, %d refused: the draw asks too little", g, w.p.commits, refused)
		}
	}
}

// P8.3: each Step that answers OK does one step of the disk, unless nothing was to be done; refused ones do none.
func TestOneStepOfTheDisk(t *testing.T) {
	draw := rand.New(rand.NewSource(31))
	r := begun(t, example, 1, 0)
	for range 300 {
		for range draw.Intn(5) {
			r.write(byte(draw.Intn(256)), 150+draw.Intn(100))
		}
		for range draw.Intn(3) {
			r.hold(150 + draw.Intn(100))
		}
		r.stepOf(api.ErrWait)
		r.j.Ask(draw.Intn(5) == 0)
		for at := 0; r.j.Busy(); at++ {
			ops := r.d.Ops()
			if e := r.j.Step(); e != api.OK {
				t.Fatalf("Step: %d", e)
			}
			if done := r.d.Ops() - ops; done != 1 && (done != 0 || r.j.Busy()) {
				t.Fatalf("step %d: %d steps of the disk", at, done)
			}
		}
	}
}
