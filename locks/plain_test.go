package locks_test

import (
	"math/rand"
	"slices"
	"testing"

	"hayrick/api"
	"hayrick/locks"
)

// ask is an Ask that must not be refused.
func ask(t *testing.T, l *locks.Table, thread, key int, alone bool) {
	t.Helper()
	if e := l.Ask(thread, key, alone); e != api.OK {
		t.Fatalf("Ask(%d, %d, %t): %d", thread, key, alone, e)
	}
}

// leave is a Leave that must not be refused.
func leave(t *testing.T, l *locks.Table, thread, key int) {
	t.Helper()
	if e := l.Leave(thread, key); e != api.OK {
		t.Fatalf("Leave(%d, %d): %d", thread, key, e)
	}
}

// stands: is it just these claims that stand at a key, and does Holds tell of each thread what they tell?
func stands(t *testing.T, l *locks.Table, key int, want ...locks.Claim) {
	t.Helper()
	if got := l.Claims(key); !slices.Equal(got, want) {
		t.Fatalf("Claims(%d): %v, want %v", key, got, want)
	}
	held := map[int]bool{}
	for _, c := range want {
		held[c.Thread] = c.Holds
	}
	for thread := range api.MaxThreads + 2 {
		if got := l.Holds(thread, key); got != held[thread] {
			t.Fatalf("Holds(%d, %d): %t, want %t", thread, key, got, held[thread])
		}
	}
}

// free: does Free tell this?
func free(t *testing.T, l *locks.Table, want bool) {
	t.Helper()
	if got := l.Free(); got != want {
		t.Fatalf("Free: %t, want %t", got, want)
	}
}

// lawful: is a row as what follows says? One that holds alone holds by itself, claims hold from the front on, and the first one holds.
func lawful(t *testing.T, row []locks.Claim) {
	t.Helper()
	holding, alone := 0, false
	for place, c := range row {
		if c.Holds && holding < place {
			t.Fatalf("one holds behind one that waits: %v", row)
		}
		if c.Holds {
			holding++
			alone = alone || c.Alone
		}
	}
	if alone && holding > 1 {
		t.Fatalf("one that is alone holds with others: %v", row)
	}
	if len(row) > 0 && holding == 0 {
		t.Fatalf("none holds: %v", row)
	}
}

// plain is locks as the document tells them: all claims in the order in which they came.
type plain []said

type said struct {
	thread, key int
	alone       bool
}

func (p plain) place(thread, key int) int {
	return slices.IndexFunc(p, func(s said) bool { return s.thread == thread && s.key == key })
}

// ahead is what stands in a row ahead of a place.
func (p plain) ahead(place int) plain {
	var out plain
	for _, s := range p[:place] {
		if s.key == p[place].key {
			out = append(out, s)
		}
	}
	return out
}

// holds is P3.2 word for word.
func (p plain) holds(place int) bool {
	ahead := p.ahead(place)
	alone := p[place].alone
	for i, s := range ahead {
		if !ahead.holds(i) {
			return false
		}
		alone = alone || s.alone
	}
	return len(ahead) == 0 || !alone
}

func (p plain) row(key int) []locks.Claim {
	var out []locks.Claim
	for place, s := range p {
		if s.key == key {
			out = append(out, locks.Claim{Thread: s.thread, Alone: s.alone, Holds: p.holds(place)})
		}
	}
	return out
}

// P3.1 to P3.3: any calls in any order do to a table what they do to a plain one, and no claim that holds waits again.
func TestPlainTable(t *testing.T) {
	for seed := range int64(20) {
		draw := rand.New(rand.NewSource(seed))
		threads, keys, alone := 2+draw.Intn(8), 1+draw.Intn(5), 2+draw.Intn(5)
		l, p := locks.New(), plain{}
		held := map[said]bool{}
		for range 400 {
			s := said{1 + draw.Intn(threads), draw.Intn(keys), draw.Intn(alone) == 0}
			place, want := p.place(s.thread, s.key), api.OK
			if draw.Intn(2) == 0 {
				if place >= 0 {
					want = api.EINVAL
				} else {
					p = append(p, s)
				}
				if e := l.Ask(s.thread, s.key, s.alone); e != want {
					t.Fatalf("Ask(%v): %d, want %d", s, e, want)
				}
			} else {
				if place < 0 {
					want = api.EINVAL
				} else {
					delete(held, p[place])
					p = slices.Delete(p, place, place+1)
				}
				if e := l.Leave(s.thread, s.key); e != want {
					t.Fatalf("Leave(%v): %d, want %d", s, e, want)
				}
			}
			for key := range keys {
				stands(t, l, key, p.row(key)...)
				lawful(t, l.Claims(key))
			}
			for _, s := range p {
				if l.Holds(s.thread, s.key) {
					held[s] = true
				} else if held[s] {
					t.Fatalf("%v held, and waits", s)
				}
			}
			free(t, l, len(p) == 0)
		}
	}
}
