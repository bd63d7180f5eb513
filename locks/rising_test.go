package locks_test

import (
	"math/rand"
	"slices"
	"strconv"
	"strings"
	"testing"

	"hayrick/api"
	"hayrick/locks"
)

// walker is a thread that asks for the keys of its plan one by one, each when the one before holds, and in the end leaves them all.
type walker struct {
	thread int
	plan   []said
	steps  int
}

func (w *walker) ended() bool { return w.steps == 2*len(w.plan) }

// waits: is its last claim one that does not hold?
func (w *walker) waits(l *locks.Table) bool {
	if w.steps == 0 || w.steps > len(w.plan) {
		return false
	}
	return !l.Holds(w.thread, w.plan[w.steps-1].key)
}

func (w *walker) step(t *testing.T, l *locks.Table) {
	t.Helper()
	if w.steps < len(w.plan) {
		ask(t, l, w.thread, w.plan[w.steps].key, w.plan[w.steps].alone)
	} else {
		leave(t, l, w.thread, w.plan[w.steps-len(w.plan)].key)
	}
	w.steps++
}

// movers are the places of those that may go.
func movers(l *locks.Table, ws []*walker) []int {
	var out []int
	for i, w := range ws {
		if !w.ended() && !w.waits(l) {
			out = append(out, i)
		}
	}
	return out
}

func allEnded(ws []*walker) bool {
	return !slices.ContainsFunc(ws, func(w *walker) bool { return !w.ended() })
}

// plans are all ways to ask for rising keys below a number, each one alone or not.
func plans(keys int) [][]said {
	out := [][]said{nil}
	for key := range keys {
		for _, p := range slices.Clone(out) {
			out = append(out, append(slices.Clone(p), said{key: key}), append(slices.Clone(p), said{key: key, alone: true}))
		}
	}
	return out
}

// replayed are the threads of some plans, and their table, behind some steps.
func replayed(t *testing.T, chosen [][]said, steps []int) (*locks.Table, []*walker) {
	l, ws := locks.New(), []*walker{}
	for i, p := range chosen {
		ws = append(ws, &walker{thread: i + 1, plan: p})
	}
	for _, i := range steps {
		ws[i].step(t, l)
	}
	return l, ws
}

// lockedUp goes through all orders of the steps of some plans; it answers those behind which no thread may go though one has not ended, or nil.
func lockedUp(t *testing.T, chosen [][]said) []int {
	seen := map[string]bool{}
	var try func(steps []int) []int
	try = func(steps []int) []int {
		l, ws := replayed(t, chosen, steps)
		var state strings.Builder
		for _, w := range ws {
			state.WriteString(strconv.Itoa(w.steps) + " ")
		}
		for key := range 4 {
			for _, c := range l.Claims(key) {
				state.WriteString(strconv.Itoa(c.Thread) + ",")
			}
			state.WriteString(";")
		}
		if seen[state.String()] {
			return nil
		}
		seen[state.String()] = true
		if allEnded(ws) {
			free(t, l, true)
			return nil
		}
		may := movers(l, ws)
		if len(may) == 0 {
			return steps
		}
		for _, i := range may {
			if bad := try(append(slices.Clone(steps), i)); bad != nil {
				return bad
			}
		}
		return nil
	}
	return try(nil)
}

// P3.4: two threads over three keys, in all ways and all orders.
func TestTwoRise(t *testing.T) {
	all := plans(3)
	for i, a := range all {
		for _, b := range all[:i+1] {
			if bad := lockedUp(t, [][]said{a, b}); bad != nil {
				t.Fatalf("%v %v: locked up behind %v", a, b, bad)
			}
		}
	}
}

// P3.4: three threads over two keys, in all ways and all orders.
func TestThreeRise(t *testing.T) {
	all := plans(2)
	for i, a := range all {
		for j, b := range all[:i+1] {
			for _, c := range all[:j+1] {
				if bad := lockedUp(t, [][]said{a, b, c}); bad != nil {
					t.Fatalf("%v %v %v: locked up behind %v", a, b, c, bad)
				}
			}
		}
	}
}

// P3.2: keys that do not rise may lock up, where one is asked for alone: so the search above finds what it seeks.
func TestFallingLocksUp(t *testing.T) {
	up, down := []said{{key: 1}, {key: 2}}, []said{{key: 2, alone: true}, {key: 1, alone: true}}
	if lockedUp(t, [][]said{up, down}) == nil {
		t.Error("one rises, one falls: not locked up in any order")
	}
	down = []said{{key: 2}, {key: 1}}
	if bad := lockedUp(t, [][]said{up, down}); bad != nil {
		t.Errorf("none is alone: locked up behind %v", bad)
	}
}

// P3.4: all threads at once over drawn keys that rise, in drawn orders: some thread may go till all have ended.
func TestManyRise(t *testing.T) {
	for seed := range int64(40) {
		draw := rand.New(rand.NewSource(seed))
		keys, alone := 1+draw.Intn(12), 1+draw.Intn(4)
		l, ws, left := locks.New(), []*walker{}, 0
		for i := range api.MaxThreads {
			w := &walker{thread: i + 1}
			for key := range keys {
				if draw.Intn(3) == 0 {
					w.plan = append(w.plan, said{key: key * 1000, alone: draw.Intn(alone) == 0})
				}
			}
			ws, left = append(ws, w), left+2*len(w.plan)
		}
		for ; !allEnded(ws); left-- {
			may := movers(l, ws)
			if len(may) == 0 {
				t.Fatalf("seed %d: locked up, %d steps ahead of the end", seed, left)
			}
			ws[may[draw.Intn(len(may))]].step(t, l)
			for key := range keys {
				lawful(t, l.Claims(key*1000))
			}
		}
		if left != 0 {
			t.Fatalf("seed %d: %d steps left", seed, left)
		}
		free(t, l, true)
	}
}
