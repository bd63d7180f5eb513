package journal_test

import (
	"slices"
	"testing"

	"hayrick/api"
	"hayrick/journal"
	"hayrick/log"
)

// P8.2, P8.3: the chapter's own examples.
func TestExamples(t *testing.T) {
	r := begun(t, example, 5, 0)
	if n := r.j.Cap(); n != 67 {
		t.Errorf("Cap: %d", n)
	}
	r.starts(64, 1)
	r.startsNot(4, api.ErrWait)
	r.starts(3, 2)
	r.stops(1, api.OK)
	r.stops(2, api.OK)
	r.write(7, 150)
	r.j.Ask(false)
	l := r.laid(5, 0, of(7, 150))
	for i, at := range []int{3, 4, -1, 5, -1} {
		if l[i].block != at {
			t.Fatalf("step %d: block %d, want %d", i, l[i].block, at)
		}
	}
	d, _ := log.Unpack(l[0].data)
	c, _ := log.Unpack(l[3].data)
	if d.Kind != log.Descriptor || d.Seq != 5 || !slices.Equal(d.Entries, []log.Entry{{Block: 150}}) || c.Kind != log.Commit || c.Seq != 5 {
		t.Fatalf("descriptor and commit: %v %v", d, c)
	}
	r.steps(false, l...)
	r.commits(1)
	r.place(6, 0, 3)
	r.j.Ask(true)
	r.steps(false, r.cleared(6, 3, of(7, 150)...)...)
	r.place(6, 3, 0)
	r.commits(2)
}

// P8.3: where nothing is to be done there is one Step, without a step of the disk; the commit has ended, and nothing is held.
func TestNothing(t *testing.T) {
	for _, clean := range []bool{false, true} {
		r := begun(t, example, 1, 9)
		r.hold(150, 0, 299)
		for n := range 3 {
			r.j.Ask(clean)
			r.asked(true, true)
			r.commits(n)
			r.stepOf(api.OK)
			r.asked(false, false)
			r.commits(n + 1)
			r.held()
			r.place(1, 9, 0)
			r.stepOf(api.ErrWait)
		}
	}
}

// P8.3: with nothing to be laid, a checkpoint that is asked for does its first thing in the first Step.
func TestCleanAlone(t *testing.T) {
	r := begun(t, example, 1, 0)
	r.write(1, 152, 150)
	r.j.Ask(false)
	r.steps(false, r.laid(1, 0, of(1, 150, 152))...)
	r.hold(151)
	r.j.Ask(true)
	l := r.cleared(2, 4, of(1, 150, 152)...)
	r.steps(true, l[0])
	// The commit itself has ended with it.
	r.commits(2)
	r.held()
	r.place(2, 0, 4)
	r.steps(true, l[1:4]...)
	r.place(2, 0, 4)
	r.steps(false, l[4])
	r.place(2, 4, 0)
	r.commits(2)
}

// P8.3: a checkpoint where something is used and nothing waits, and where something waits and nothing is used.
func TestCleanOfOne(t *testing.T) {
	r := begun(t, example, 1, 0)
	r.write(1, 150)
	r.j.Ask(false)
	r.steps(false, r.laid(1, 0, of(1, 150))...)
	if e := r.s.Home(150); e != api.OK {
		t.Fatal(e)
	}
	r.j.Ask(true)
	r.steps(false, r.cleared(2, 3)...)
	r.place(2, 3, 0)
	r.write(2, 151)
	r.s.Commit()
	r.j.Ask(true)
	r.steps(false, r.cleared(2, 3, of(2, 151)...)...)
	r.place(2, 3, 0)
	r.j.Ask(true)
	r.stepOf(api.OK)
	r.commits(4)
}

// P8.3: all that is changed is laid, by rising numbers, with its last bytes, escaped where it must be; it waits then.
func TestLaid(t *testing.T) {
	for _, n := range []int{1, 2, 47, 48, 49, 67} {
		r := begun(t, example, 3, 1)
		var want []api.Write
		for i := range n {
			b := filled(byte(i))
			if i%3 == 1 {
				b = marked(byte(i))
			}
			want = append(want, api.Write{Block: 200 + i, Data: b})
		}
		for _, w := range slices.Backward(want) {
			r.write(99, w.Block)
			r.put(w.Block, w.Data)
		}
		r.j.Ask(false)
		l := r.laid(3, 1, want)
		r.steps(true, l[0])
		if !sameWrites(r.s.Waiting(), want) || len(r.s.Changed()) != 0 {
			t.Error("what is laid must wait from the first Step on")
		}
		r.place(3, 1, 0)
		r.steps(false, l[1:]...)
		r.place(4, 1, log.Need(n, 0))
		r.j.Ask(true)
		r.steps(false, r.cleared(4, 1+log.Need(n, 0), want...)...)
	}
}

// P8.3: revoked are blocks that are held, live, and not changed, by rising numbers; nothing is held behind the commit.
func TestRevoked(t *testing.T) {
	r := begun(t, example, 1, 0)
	r.write(1, 150, 151, 152, 153)
	r.hold(150) // changed in the same transaction
	r.j.Ask(false)
	r.steps(false, r.laid(1, 0, of(1, 150, 151, 152, 153))...)
	r.held()
	r.hold(200, 153, 151, 152, 2)
	r.write(2, 152, 154)
	r.j.Ask(false)
	l := r.laid(2, 6, of(2, 152, 154), 151, 153)
	last := len(l) - 1
	r.steps(true, l[:last]...)
	r.held(2, 151, 152, 153, 200)
	r.steps(false, l[last])
	r.held()
	r.place(3, 0, 11)
	// What was revoked has a copy as before: so it is live, and may be revoked again, alone as well.
	r.hold(153, 154, 155)
	r.j.Ask(false)
	r.steps(false, r.laid(3, 11, nil, 153, 154)...)
	r.place(4, 0, 13)
	r.commits(3)
	// What is held at a checkpoint isn't live behind it.
	r.j.Ask(true)
	r.steps(false, r.cleared(4, 13, slices.Concat(of(1, 150, 151), of(2, 152), of(1, 153), of(2, 154))...)...)
	r.hold(151, 153)
	r.j.Ask(false)
	r.stepOf(api.OK)
	r.held()
	r.commits(5)
	r.place(4, 13, 0)
}

// P8.3: more revoked blocks than go into one record.
func TestManyRevoked(t *testing.T) {
	r := begun(t, long, 1, 0)
	blocks := upTo(550, 130)
	r.write(1, blocks...)
	r.j.Ask(false)
	r.steps(false, r.laid(1, 0, of(1, blocks...))...)
	for _, x := range [][2]int{{60, 2}, {61, 3}, {120, 3}, {121, 4}} {
		seq, _, used := r.j.Place()
		held := upTo(550, x[0])
		slices.Reverse(held)
		r.hold(held...)
		r.j.Ask(false)
		r.steps(false, r.laid(seq, used, nil, upTo(550, x[0])...)...)
		r.place(seq+1, 0, used+x[1])
	}
}

// P8.3: a block is live from the last flush of its transaction on, not ahead of it.
func TestLiveLate(t *testing.T) {
	r := begun(t, example, 1, 0)
	r.write(1, 150)
	r.j.Ask(false)
	l := r.laid(1, 0, of(1, 150))
	r.steps(true, l[:4]...)
	r.place(1, 0, 0)
	// What is held while the commit goes on is let go with it.
	r.hold(150)
	r.steps(false, l[4])
	r.held()
	r.hold(150)
	r.j.Ask(false)
	r.steps(false, r.laid(2, 3, nil, 150)...)
}

// fill lets so many places be used, by transactions of one block each of 3 places, and one of 4 or 5.
func (r *rig) fill(places int) []api.Write {
	r.Helper()
	var home []api.Write
	at, seq := 0, 0
	seq, at, _ = r.j.Place()
	for n := 200; places > 0; n++ {
		blocks := []int{n}
		if places < 6 {
			blocks = upTo(n, places-2)
		}
		r.write(byte(n), blocks...)
		home = append(home, of(byte(n), blocks...)...)
		r.j.Ask(false)
		r.steps(false, r.laid(seq, at, of(byte(n), blocks...))...)
		at, seq, places = at+len(blocks)+2, seq+1, places-len(blocks)-2
	}
	return home
}

// P8.3: all places of the ring may be used, round its end; where more are needed a checkpoint comes ahead.
func TestRound(t *testing.T) {
	for _, at := range []int{0, 1, 40, 94} {
		for _, short := range []int{0, 1, 2} {
			r := begun(t, example, 11, at)
			home := r.fill(95 - 3 - short)
			seq, _, used := r.j.Place()
			blocks := upTo(260, 1+short)
			r.write(5, blocks...)
			r.j.Ask(false)
			r.steps(false, r.laid(seq, at+used, of(5, blocks...))...)
			r.place(seq+1, at, 95)
			// Not a place is left: the tail stands where it is.
			r.write(6, 150)
			r.j.Ask(false)
			r.steps(true, r.cleared(seq+1, at, append(home, of(5, blocks...)...)...)...)
			r.place(seq+1, at, 0)
			r.commits(seq + 1 - 11)
			r.steps(false, r.laid(seq+1, at, of(6, 150))...)
			r.place(seq+2, at, 3)
		}
	}
}

// P8.3: a checkpoint comes just where more is needed than is left, and leads back to the front: what is changed is asked for again, nothing is live any more.
func TestCheckpointAhead(t *testing.T) {
	for _, left := range []int{0, 1, 2, 3, 4, 5} {
		r := begun(t, example, 1, 90)
		home := r.fill(95 - left)
		seq, _, used := r.j.Place()
		if used != 95-left {
			t.Fatalf("used: %d, want %d", used, 95-left)
		}
		r.write(5, 150)
		r.hold(200, 201)
		r.j.Ask(false)
		// One copy and one row of what is revoked take 4 places.
		if left >= 4 {
			r.steps(false, r.laid(seq, 90+used, of(5, 150), 200, 201)...)
			r.place(seq+1, 90, used+4)
			continue
		}
		start := (90 + used) % 95
		r.steps(true, r.cleared(seq, start, home...)...)
		r.place(seq, start, 0)
		r.held(200, 201)
		r.write(6, 149, 150)
		r.steps(false, r.laid(seq, start, of(6, 149, 150))...)
		r.place(seq+1, start, 4)
		r.held()
	}
}

// P8.3: what waits goes home ahead with the bytes that were committed, though it is changed again.
func TestCheckpointOfChanged(t *testing.T) {
	r := begun(t, example, 1, 0)
	home := r.fill(95)
	seq, _, _ := r.j.Place()
	r.write(99, 200, 210)
	r.j.Ask(true)
	r.steps(true, r.cleared(seq, 0, home...)...)
	r.steps(true, r.laid(seq, 0, of(99, 200, 210))...)
	r.place(seq+1, 0, 4)
	r.steps(false, r.cleared(seq+1, 4, of(99, 200, 210)...)...)
	r.place(seq+1, 4, 0)
}

// P8.3: of revoked blocks alone nothing is left behind the checkpoint that they needed: the commit ends in the next Step, without a step of the disk.
func TestRevokedNoMore(t *testing.T) {
	for _, clean := range []bool{false, true} {
		r := begun(t, example, 1, 0)
		home := r.fill(94)
		seq, _, _ := r.j.Place()
		r.hold(200)
		r.j.Ask(clean)
		r.steps(true, r.cleared(seq, 94, home...)...)
		r.held(200)
		r.commits(seq - 1)
		r.stepOf(api.OK)
		r.held()
		r.asked(false, false)
		r.commits(seq)
		r.place(seq, 94, 0)
	}
}

// P8.3: of more blocks than the ring has places for nothing is done, and the commit isn't wanted any more; just as many do.
func TestTooMany(t *testing.T) {
	// 92 copies, 2 descriptors and a commit fill the ring of 95.
	for _, used := range []int{0, 9} {
		for _, clean := range []bool{false, true} {
			r := begun(t, example, 1, 0)
			home := r.fill(used)
			seq, _, _ := r.j.Place()
			r.write(7, upTo(100, 93)...)
			r.hold(299)
			mark := r.s.Mark()
			r.j.Ask(clean)
			r.stepOf(api.ErrCredits)
			r.asked(false, false)
			r.stepOf(api.ErrWait)
			r.held(299)
			r.commits(seq - 1)
			r.place(seq, 0, used)
			if r.s.Mark() != mark || len(r.s.Changed()) != 93 || !sameWrites(r.s.Waiting(), home) {
				t.Error("a refused commit changed something")
			}
			r.startsNot(1, api.ErrWait)
			r.j.Ask(false)
			r.stepOf(api.ErrCredits)
			// Clean was said of the refused one alone.
			if e := r.s.Back(92); e != api.OK {
				t.Fatal(e)
			}
			r.j.Ask(false)
			if used > 0 {
				r.steps(true, r.cleared(seq, used, home...)...)
			}
			r.steps(false, r.laid(seq, used, of(7, upTo(100, 92)...))...)
			r.place(seq+1, used, 95)
		}
	}
}

// P8.3: revoked blocks count for the room that is needed, too.
func TestTooManyRevoked(t *testing.T) {
	r := begun(t, example, 1, 0)
	home := r.fill(3)
	r.write(7, upTo(100, 92)...)
	r.hold(200)
	r.j.Ask(false)
	r.stepOf(api.ErrCredits)
	r.asked(false, false)
	r.held(200)
	r.s.Release()
	r.j.Ask(false)
	r.steps(true, r.cleared(2, 3, home...)...)
	r.steps(false, r.laid(2, 3, of(7, upTo(100, 92)...))...)
}

// P8.2, P8.3: clean counts, whenever it is said of a commit that has not ended.
func TestAskLate(t *testing.T) {
	prepared := func() *rig {
		r := begun(t, example, 1, 0)
		r.fill(92)
		r.write(5, 150, 151)
		r.j.Ask(false)
		return r
	}
	r := prepared()
	seq, _, _ := r.j.Place()
	home := r.s.Waiting()
	ahead := append(r.cleared(seq, 92, home...), r.laid(seq, 92, of(5, 150, 151))...)
	behind := r.cleared(seq+1, 1, of(5, 150, 151)...)
	for at := range ahead {
		r := prepared()
		r.steps(true, ahead[:at]...)
		r.j.Ask(true)
		r.steps(true, ahead[at:]...)
		for _, x := range behind {
			r.commits(seq)
			r.j.Ask(false) // it is that one
			r.stepOf(api.OK, x)
		}
		r.asked(false, false)
		r.commits(seq)
		r.place(seq+1, 1, 0)
	}
	r.steps(false, ahead...)
	r.commits(seq)
	r.j.Ask(true) // of another one
	r.steps(false, behind...)
	r.commits(seq + 1)
}

// P8.3: what is changed while a commit goes on is not of it; what it laid goes home as it was laid.
func TestChangedMeanwhile(t *testing.T) {
	r := begun(t, example, 1, 0)
	r.write(1, 150, 151)
	r.j.Ask(true)
	l := append(r.laid(1, 0, of(1, 150, 151)), r.cleared(2, 4, of(1, 150, 151)...)...)
	r.steps(true, l[0])
	r.write(2, 151, 152)
	r.steps(false, l[1:]...)
	r.place(2, 4, 0)
	if got := r.s.Changed(); !slices.Equal(got, []int{151, 152}) {
		t.Errorf("Changed: %v", got)
	}
	r.j.Ask(false)
	r.steps(false, r.laid(2, 4, of(2, 151, 152))...)
}

// R1: a block that somebody else brought home is passed over: each Step does a step of the disk as before.
func TestBroughtHome(t *testing.T) {
	for _, gone := range [][]int{{150}, {151}, {152}, {151, 152}, {150, 151, 152}} {
		r := begun(t, example, 1, 0)
		r.write(1, 149, 150, 151, 152)
		r.j.Ask(true)
		r.steps(true, r.laid(1, 0, of(1, 149, 150, 151, 152))...)
		l := r.cleared(2, 6, of(1, 149, 150, 151, 152)...)
		r.steps(true, l[0])
		for _, n := range gone {
			if e := r.s.Home(n); e != api.OK {
				t.Fatal(e)
			}
		}
		r.steps(false, slices.DeleteFunc(l[1:], func(x op) bool { return slices.Contains(gone, x.block) })...)
		r.place(2, 6, 0)
	}
}

// P8.3: the store's disk may be another one than the journal's: each gets what is said of it.
func TestTwoDisks(t *testing.T) {
	s, homes := over(t, example.Blocks)
	_, d := over(t, example.Blocks)
	j, e := journal.New(s, d, example, 1, 0)
	if e != api.OK {
		t.Fatal(e)
	}
	if e := s.Write(150, filled(1)); e != api.OK {
		t.Fatal(e)
	}
	j.Ask(true)
	for range 9 {
		if e := j.Step(); e != api.OK {
			t.Fatalf("Step: %d", e)
		}
	}
	if got := homes.Pending(); !sameWrites(got, of(1, 150)) || homes.Ops() != 1 || d.Ops() != 8 || len(d.Pending()) != 0 {
		t.Errorf("pending of the store's disk: %v; Ops %d %d", briefs(got), homes.Ops(), d.Ops())
	}
}
