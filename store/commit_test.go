package store_test

import (
	"bytes"
	"math"
	"slices"
	"testing"

	"hayrick/api"
	"hayrick/store"
)

// P6.4, P6.5: the chapter's own example.
func TestExample(t *testing.T) {
	s, d := made(t, api.MinBlocks, 2, 2)
	write(t, s, 5, 7)
	marks(t, s, 1)
	write(t, s, 5, 8)
	hold(t, s, 9)
	back(t, s, 1)
	reads(t, s, 5, 7)
	changes(t, s, 5)
	holds(t, s)
	commits(t, s, api.Write{Block: 5, Data: filled(7)})
	reads(t, s, 5, 7)
	home(t, s, 5)
	if e := s.Home(5); e != api.EINVAL {
		t.Errorf("Home(5) again: %d", e)
	}
	if !sameWrites(d.Pending(), []api.Write{{Block: 5, Data: filled(7)}}) {
		t.Errorf("pending: %v", briefs(d.Pending()))
	}
}

// P6.4: Mark tells the Writes and Holds since the last Commit, less those that were undone; nothing else is in it.
func TestMark(t *testing.T) {
	s, _ := made(t, api.MinBlocks, 2, 2)
	write(t, s, 1, 1)
	write(t, s, 1, 1) // the same once more is one more
	hold(t, s, 1)
	hold(t, s, 1)
	marks(t, s, 4)
	s.Read(1)
	s.Changed()
	s.Waiting()
	s.Home(1)
	marks(t, s, 4)
	s.Release()
	marks(t, s, 4)
	back(t, s, 2)
	write(t, s, 2, 2)
	marks(t, s, 3)
	s.Commit()
	marks(t, s, 0)
	s.Home(1)
	marks(t, s, 0)
	hold(t, s, 2)
	marks(t, s, 1)
}

// P6.4: EINVAL, if it is no mark that the store has had since the last Commit; nothing is undone then.
func TestBackWrong(t *testing.T) {
	s, _ := made(t, api.MinBlocks, 2, 2)
	refused := func(marks ...int) {
		t.Helper()
		for _, mark := range marks {
			if e := s.Back(mark); e != api.EINVAL {
				t.Errorf("Back(%d): %d", mark, e)
			}
		}
	}
	refused(math.MinInt, -1, 1, math.MaxInt)
	back(t, s, 0)
	write(t, s, 1, 1)
	hold(t, s, 2)
	write(t, s, 3, 3)
	refused(math.MinInt, -1<<32, -1, 4, 5, 1<<32, 1<<32+1, math.MaxInt)
	marks(t, s, 3)
	changes(t, s, 1, 3)
	holds(t, s, 2)
	back(t, s, 3)
	changes(t, s, 1, 3)
	back(t, s, 2)
	refused(3)
	changes(t, s, 1)
	s.Commit()
	refused(-1, 1, 2)
	back(t, s, 0)
	reads(t, s, 1, 1)
	holds(t, s, 2)
}

// P6.4: block by block, and mark by mark, what was changed, and how, and what was held, is as it was.
func TestBackToEachMark(t *testing.T) {
	const writes, blocks = 12, 5
	for mark := range writes + 1 {
		for second := range mark + 1 {
			s, _ := made(t, api.MinBlocks, 3, 3)
			for i := range writes {
				if i%3 == 2 {
					hold(t, s, i%blocks)
				} else {
					write(t, s, i%blocks, byte(i+1))
				}
			}
			back(t, s, mark)
			back(t, s, second)
			last := map[int]byte{}
			var changed, held []int
			for i := range second {
				if i%3 == 2 {
					held = append(held, i%blocks)
				} else {
					last[i%blocks] = byte(i + 1)
				}
			}
			for n := range blocks {
				reads(t, s, n, last[n])
				if last[n] > 0 {
					changed = append(changed, n)
				}
			}
			changes(t, s, changed...)
			holds(t, s, held...)
		}
	}
}

// P6.4: a block that isn't changed any more is read as it waits, and else from the disk: it isn't cached by that. Counts stay.
func TestBackLeavesCacheAndCounts(t *testing.T) {
	s, _ := made(t, api.MinBlocks, 1, 2)
	write(t, s, 5, 1)
	s.Commit()
	cached(t, s, []int{1, 2}, []bool{false, false})
	write(t, s, 5, 2)
	write(t, s, 6, 3)
	write(t, s, 1, 4)
	reads(t, s, 5, 2)
	counts(t, s, 1, 2)
	back(t, s, 0)
	counts(t, s, 1, 2)
	changes(t, s)
	waits(t, s, api.Write{Block: 5, Data: filled(1)})
	reads(t, s, 5, 1)
	counts(t, s, 2, 2)
	cached(t, s, []int{2, 1, 2, 6, 1, 2}, []bool{true, false, true, false, false, false})
}

// P6.4: what went home in between isn't undone: the block is read from the disk, as it went there.
func TestBackBehindHome(t *testing.T) {
	s, d := made(t, api.MinBlocks, 1, 2)
	write(t, s, 5, 1)
	s.Commit()
	write(t, s, 5, 2)
	home(t, s, 5)
	reads(t, s, 5, 2)
	changes(t, s, 5)
	waits(t, s)
	back(t, s, 0)
	changes(t, s)
	waits(t, s)
	cached(t, s, []int{5}, []bool{false})
	reads(t, s, 5, 1)
	if d.Ops() != 1 {
		t.Errorf("the disk's Ops: %d, want 1", d.Ops())
	}
}

// P6.5: Commit answers all that is changed, rising; it waits then, in the place of what waited already; what is held stays.
func TestCommit(t *testing.T) {
	s, d := made(t, api.MinBlocks, 2, 2)
	write(t, s, 9, 1)
	write(t, s, 127, 2)
	write(t, s, 0, 3)
	hold(t, s, 4)
	commits(t, s, api.Write{Block: 0, Data: filled(3)}, api.Write{Block: 9, Data: filled(1)}, api.Write{Block: 127, Data: filled(2)})
	waits(t, s, api.Write{Block: 0, Data: filled(3)}, api.Write{Block: 9, Data: filled(1)}, api.Write{Block: 127, Data: filled(2)})
	holds(t, s, 4)
	write(t, s, 9, 4)
	write(t, s, 8, 5)
	waits(t, s, api.Write{Block: 0, Data: filled(3)}, api.Write{Block: 9, Data: filled(1)}, api.Write{Block: 127, Data: filled(2)})
	commits(t, s, api.Write{Block: 8, Data: filled(5)}, api.Write{Block: 9, Data: filled(4)})
	waits(t, s, api.Write{Block: 0, Data: filled(3)}, api.Write{Block: 8, Data: filled(5)}, api.Write{Block: 9, Data: filled(4)}, api.Write{Block: 127, Data: filled(2)})
	commits(t, s)
	holds(t, s, 4)
	reads(t, s, 9, 4)
	reads(t, s, 0, 3)
	counts(t, s, 2, 0)
	if d.Ops() != 0 {
		t.Errorf("the disk's Ops: %d", d.Ops())
	}
}

// P6.5: what was held and committed can't be undone any more; a Commit of nothing lets Mark be 0 as well.
func TestCommitHolds(t *testing.T) {
	s, _ := made(t, api.MinBlocks, 2, 2)
	hold(t, s, 4)
	commits(t, s)
	back(t, s, 0)
	holds(t, s, 4)
	hold(t, s, 4)
	hold(t, s, 5)
	back(t, s, 0)
	holds(t, s, 4)
}

// P6.5: Release lets nothing be held, Mark stay, and no Back bring back what was held.
func TestRelease(t *testing.T) {
	for mark := range 6 {
		s, _ := made(t, api.MinBlocks, 2, 2)
		hold(t, s, 9)
		s.Commit()
		hold(t, s, 9)
		hold(t, s, 8)
		hold(t, s, 8)
		write(t, s, 7, 1)
		s.Release()
		marks(t, s, 4)
		holds(t, s)
		changes(t, s, 7)
		hold(t, s, 8)
		holds(t, s, 8)
		if mark < 5 {
			back(t, s, mark)
			holds(t, s)
		}
		hold(t, s, 9)
		if mark < 5 {
			holds(t, s, 9)
		} else {
			holds(t, s, 8, 9)
		}
	}
}

// P6.5: Home writes to the disk what waits, once, and not what was changed since; EINVAL of all that doesn't wait.
func TestHome(t *testing.T) {
	s, d := made(t, api.MinBlocks, 2, 2)
	refused := func(blocks ...int) {
		t.Helper()
		ops := d.Ops()
		for _, n := range blocks {
			if e := s.Home(n); e != api.EINVAL {
				t.Errorf("Home(%d): %d", n, e)
			}
		}
		if d.Ops() != ops {
			t.Errorf("the disk's Ops: %d, want %d", d.Ops(), ops)
		}
	}
	write(t, s, 5, 1)
	hold(t, s, 7)
	reads(t, s, 6, 0)
	refused(5, 6, 7)
	write(t, s, 0, 2)
	s.Commit()
	refused(6, 7)
	refused(notIn(api.MinBlocks)...)
	write(t, s, 5, 3)
	home(t, s, 5)
	refused(5)
	reads(t, s, 5, 3)
	changes(t, s, 5)
	waits(t, s, api.Write{Block: 0, Data: filled(2)})
	home(t, s, 0)
	refused(0, 5)
	waits(t, s)
	want := []api.Write{{Block: 5, Data: filled(1)}, {Block: 0, Data: filled(2)}}
	if !sameWrites(d.Pending(), want) || d.Ops() != 2 {
		t.Errorf("pending %v, Ops %d", briefs(d.Pending()), d.Ops())
	}
	commits(t, s, api.Write{Block: 5, Data: filled(3)})
	home(t, s, 5)
	if !sameWrites(d.Pending(), append(want, api.Write{Block: 5, Data: filled(3)})) {
		t.Errorf("pending %v", briefs(d.Pending()))
	}
	holds(t, s, 7)
}

// P6.5: a block that went home is cached as the one used last of its shard, if it isn't changed; one that was used longer ago goes.
func TestHomeIsCached(t *testing.T) {
	s, _ := made(t, api.MinBlocks, 1, 2)
	for _, n := range []int{5, 6} {
		write(t, s, n, byte(n))
	}
	s.Commit()
	cached(t, s, []int{1, 2}, []bool{false, false})
	home(t, s, 5)
	counts(t, s, 0, 2)
	cached(t, s, []int{2, 5, 1}, []bool{true, true, false}) // 1 was gone, and 2 is now
	write(t, s, 6, 7)
	home(t, s, 6)
	cached(t, s, []int{5, 1}, []bool{true, true})
	back(t, s, 0)
	cached(t, s, []int{6}, []bool{false})
	reads(t, s, 6, 6)
}

// P6.6: whatever is read in between, with room for one block alone, nothing that is changed or waiting is lost from memory.
func TestNothingLost(t *testing.T) {
	const blocks = 600
	s, _ := made(t, blocks, 1, 1)
	for n := 0; n < blocks; n += 2 {
		write(t, s, n, byte(n/2+1))
	}
	s.Commit()
	for n := 0; n < blocks; n += 4 {
		write(t, s, n, byte(n/4+100))
	}
	for n := 1; n < blocks; n += 2 {
		reads(t, s, n, 0)
	}
	found, asked := s.Counts()
	for n := 0; n < blocks; n += 2 {
		if n%4 == 0 {
			reads(t, s, n, byte(n/4+100))
		} else {
			reads(t, s, n, byte(n/2+1))
		}
	}
	counts(t, s, found+blocks/2, asked)
	if got := len(s.Waiting()); got != blocks/2 {
		t.Errorf("%d wait, want %d", got, blocks/2)
	}
}

// spoil writes into all bytes that it is given.
func spoil(l ...[]byte) {
	for _, b := range l {
		for i := range b {
			b[i] ^= 0xff
		}
	}
}

// R3: what is handed in is neither changed nor kept; what is answered is new memory: of a block that is changed, waits, is cached, or was read from the disk.
func TestNothingShared(t *testing.T) {
	s, d := made(t, api.MinBlocks, 2, 2)
	b := filled(1)
	s.Write(5, b)
	if !bytes.Equal(b, filled(1)) {
		t.Error("Write changed what it was given")
	}
	spoil(b)
	check := func(want byte) {
		t.Helper()
		for range 3 { // the first Read may be the one that asks the disk
			got, _ := s.Read(5)
			if !bytes.Equal(got, filled(want)) {
				t.Fatalf("Read(5): %x, want %d all over", got, want)
			}
			spoil(got)
		}
	}
	check(1)
	write(t, s, 5, 2)
	back(t, s, 1)
	check(1)
	changed := s.Changed()
	changed[0] = 99
	changes(t, s, 5)
	for _, w := range s.Commit() {
		spoil(w.Data)
	}
	check(1)
	l := s.Waiting()
	spoil(l[0].Data)
	l[0].Block = 99
	waits(t, s, api.Write{Block: 5, Data: filled(1)})
	home(t, s, 5)
	check(1)
	cached(t, s, []int{1, 3}, []bool{false, false}) // 5 is gone from the cache
	check(1)
	if got := d.Pending(); !bytes.Equal(got[0].Data, filled(1)) {
		t.Errorf("what went home: %x", got[0].Data)
	}
}

// R3: lists of one answer share no memory: none can be grown into another one.
func TestAnswersShareNone(t *testing.T) {
	s, _ := made(t, api.MinBlocks, 2, 2)
	for n := range 4 {
		write(t, s, n, byte(n+1))
	}
	for _, answer := range []func(*store.Store) []api.Write{(*store.Store).Commit, (*store.Store).Waiting} {
		l := answer(s)
		for i := range l {
			_ = append(l[i].Data, 9, 9, 9)
			spoil(l[i].Data)
			for _, other := range slices.Concat(l[:i], l[i+1:]) {
				spoiled := other.Block < i
				if want := filled(byte(other.Block + 1)); bytes.Equal(other.Data, want) == spoiled {
					t.Errorf("the bytes of %d share some with those of %d", other.Block, i)
				}
			}
		}
	}
}
