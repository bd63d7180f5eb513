package locks_test

import (
	"math"
	"slices"
	"testing"

	"hayrick/api"
	"hayrick/locks"
)

var notThreads = []int{math.MinInt, -api.MaxThreads, -1, 0, api.MaxThreads + 1, 1 << 32, 1<<32 + 1, math.MaxInt}

var notKeys = []int{math.MinInt, math.MinInt + 7, -1 << 32, -7, -1}

var someKeys = []int{0, 1, 7, 1 << 31, 1<<32 + 7, math.MaxInt}

// P3.1: a table without claims.
func TestNew(t *testing.T) {
	l := locks.New()
	if l == nil {
		t.Fatal("New: nil")
	}
	free(t, l, true)
	for _, key := range slices.Concat(someKeys, notKeys) {
		stands(t, l, key)
	}
	ask(t, l, 1, 7, true)
	other := locks.New()
	free(t, other, true)
	stands(t, other, 7)
}

// P3.1: a nil table has no claims, and takes none.
func TestNil(t *testing.T) {
	var l *locks.Table
	for range 2 {
		for _, thread := range append(notThreads, 1, 2, api.MaxThreads) {
			for _, key := range slices.Concat(someKeys, notKeys) {
				if e := l.Ask(thread, key, thread == 1); e != api.EINVAL {
					t.Errorf("Ask(%d, %d): %d", thread, key, e)
				}
				if e := l.Leave(thread, key); e != api.EINVAL {
					t.Errorf("Leave(%d, %d): %d", thread, key, e)
				}
				if l.Holds(thread, key) {
					t.Errorf("Holds(%d, %d)", thread, key)
				}
				if got := l.Claims(key); len(got) != 0 {
					t.Errorf("Claims(%d): %v", key, got)
				}
			}
		}
		free(t, l, true)
	}
}

// P1: a table that New has not made is one without claims as well.
func TestNotMade(t *testing.T) {
	var l locks.Table
	free(t, &l, true)
	stands(t, &l, 7)
	if e := l.Leave(1, 7); e != api.EINVAL {
		t.Errorf("Leave(1, 7): %d", e)
	}
	ask(t, &l, 1, 7, true)
	ask(t, &l, 2, 7, false)
	stands(t, &l, 7, locks.Claim{Thread: 1, Alone: true, Holds: true}, locks.Claim{Thread: 2})
	free(t, &l, false)
	leave(t, &l, 1, 7)
	leave(t, &l, 2, 7)
	free(t, &l, true)
}

// P3.1: threads and keys from end to end; a claim stands last in the row of its own key, and leaves that one alone.
func TestAskLeave(t *testing.T) {
	l := locks.New()
	for i, key := range someKeys {
		ask(t, l, 1, key, true)
		ask(t, l, api.MaxThreads, key, false)
		ask(t, l, 2, key, true)
		free(t, l, false)
		for j, other := range someKeys {
			if j > i {
				stands(t, l, other)
				continue
			}
			stands(t, l, other, locks.Claim{Thread: 1, Alone: true, Holds: true}, locks.Claim{Thread: api.MaxThreads}, locks.Claim{Thread: 2, Alone: true})
		}
	}
	for i, key := range someKeys {
		leave(t, l, api.MaxThreads, key)
		stands(t, l, key, locks.Claim{Thread: 1, Alone: true, Holds: true}, locks.Claim{Thread: 2, Alone: true})
		leave(t, l, 1, key)
		stands(t, l, key, locks.Claim{Thread: 2, Alone: true, Holds: true})
		free(t, l, false)
		ask(t, l, 1, key, false)
		stands(t, l, key, locks.Claim{Thread: 2, Alone: true, Holds: true}, locks.Claim{Thread: 1})
		leave(t, l, 2, key)
		leave(t, l, 1, key)
		stands(t, l, key)
		free(t, l, i == len(someKeys)-1)
	}
}

// P3.1: all threads may have a claim at one key.
func TestAllThreads(t *testing.T) {
	l := locks.New()
	var want []locks.Claim
	for thread := api.MaxThreads; thread >= 1; thread-- {
		ask(t, l, thread, 3, false)
		want = append(want, locks.Claim{Thread: thread, Holds: true})
	}
	stands(t, l, 3, want...)
	for thread := range api.MaxThreads {
		if e := l.Ask(thread+1, 3, false); e != api.EINVAL {
			t.Errorf("Ask(%d, 3, false) again: %d", thread+1, e)
		}
	}
	for len(want) > 0 {
		free(t, l, false)
		leave(t, l, want[len(want)/2].Thread, 3)
		want = slices.Delete(want, len(want)/2, len(want)/2+1)
		stands(t, l, 3, want...)
	}
	free(t, l, true)
}

// P3.1: EINVAL of what is no thread, of a key below 0, of a claim that stands, and of one that does not; what is refused changes nothing.
func TestRefused(t *testing.T) {
	l := locks.New()
	ask(t, l, 1, 7, false)
	ask(t, l, 2, 7, true)
	ask(t, l, 3, 0, false)
	refused := func(name string, e api.Errno, thread, key int) {
		t.Helper()
		if e != api.EINVAL {
			t.Errorf("%s(%d, %d): %d, want EINVAL", name, thread, key, e)
		}
		stands(t, l, 7, locks.Claim{Thread: 1, Holds: true}, locks.Claim{Thread: 2, Alone: true})
		stands(t, l, 0, locks.Claim{Thread: 3, Holds: true})
	}
	for _, alone := range []bool{false, true} {
		for _, thread := range notThreads {
			for _, key := range []int{-1, 0, 7, 8} {
				refused("Ask", l.Ask(thread, key, alone), thread, key)
			}
		}
		for _, key := range notKeys {
			for _, thread := range []int{0, 1, 4, api.MaxThreads} {
				refused("Ask", l.Ask(thread, key, alone), thread, key)
				stands(t, l, key)
			}
		}
		refused("Ask", l.Ask(1, 7, alone), 1, 7)
		refused("Ask", l.Ask(2, 7, alone), 2, 7)
		refused("Ask", l.Ask(3, 0, alone), 3, 0)
	}
	for _, thread := range append(notThreads, 3, 4, api.MaxThreads) {
		refused("Leave", l.Leave(thread, 7), thread, 7)
	}
	for _, key := range append(notKeys, 0, 8, math.MaxInt) {
		refused("Leave", l.Leave(1, key), 1, key)
	}
	leave(t, l, 3, 0)
	if e := l.Leave(3, 0); e != api.EINVAL {
		t.Errorf("Leave(3, 0) again: %d", e)
	}
}

// P3.1, P3.2: the chapter's own examples.
func TestExamples(t *testing.T) {
	l := locks.New()
	ask(t, l, 1, 7, false)
	ask(t, l, 2, 7, false)
	ask(t, l, 3, 7, true)
	ask(t, l, 4, 7, false)
	stands(t, l, 7, locks.Claim{Thread: 1, Holds: true}, locks.Claim{Thread: 2, Holds: true}, locks.Claim{Thread: 3, Alone: true}, locks.Claim{Thread: 4})
	for _, e := range []api.Errno{l.Ask(1, 7, true), l.Ask(0, 7, false), l.Ask(1, -1, false), l.Leave(5, 7)} {
		if e != api.EINVAL {
			t.Errorf("%d, want EINVAL", e)
		}
	}
	leave(t, l, 1, 7)
	leave(t, l, 2, 7)
	stands(t, l, 7, locks.Claim{Thread: 3, Alone: true, Holds: true}, locks.Claim{Thread: 4})
	leave(t, l, 3, 7)
	stands(t, l, 7, locks.Claim{Thread: 4, Holds: true})
}

// P3.2, P3.3: rows of up to seven, alone or not in every way: those hold that the document says, whoever leaves.
func TestRows(t *testing.T) {
	for size := 1; size <= 7; size++ {
		for set := range 1 << size {
			for gone := range size {
				l, p := locks.New(), plain{}
				for i := range size {
					s := said{i + 1, 5, set>>i&1 == 1}
					ask(t, l, s.thread, s.key, s.alone)
					p = append(p, s)
				}
				before := l.Claims(5)
				lawful(t, before)
				stands(t, l, 5, p.row(5)...)
				leave(t, l, gone+1, 5)
				p = slices.Delete(p, gone, gone+1)
				stands(t, l, 5, p.row(5)...)
				lawful(t, l.Claims(5))
				for i, c := range before {
					if i != gone && c.Holds && !l.Holds(c.Thread, 5) {
						t.Fatalf("%v: %d held, and waits since %d left", before, c.Thread, gone+1)
					}
				}
			}
		}
	}
}

// R3: what Claims answers is new memory, and the table's own is not to be reached by it.
func TestClaimsShared(t *testing.T) {
	l := locks.New()
	ask(t, l, 1, 7, false)
	ask(t, l, 2, 7, true)
	ask(t, l, 3, 7, false)
	want := []locks.Claim{{Thread: 1, Holds: true}, {Thread: 2, Alone: true}, {Thread: 3}}
	first, second := l.Claims(7), l.Claims(7)
	for i := range first {
		first[i] = locks.Claim{Thread: 9, Alone: true, Holds: true}
	}
	_ = append(first[:1], locks.Claim{Thread: 8})
	stands(t, l, 7, want...)
	if !slices.Equal(second, want) {
		t.Errorf("a second answer: %v", second)
	}
	leave(t, l, 1, 7)
	ask(t, l, 4, 7, true)
	if !slices.Equal(second, want) {
		t.Errorf("an answer behind other calls: %v", second)
	}
}
