package store_test

import (
	"bytes"
	"fmt"
	"math/rand"
	"reflect"
	"testing"

	"hayrick/api"
	"hayrick/store"
)

// step does one drawn call to a store and to its plain one, and holds what they answer against one another.
func step(t *testing.T, draw *rand.Rand, s *store.Store, p *plain) {
	t.Helper()
	blocks := len(p.disk)
	n := drawn(draw, blocks)
	switch k := draw.Intn(60); {
	case k < 20:
		want := p.read(n)
		if b, e := s.Read(n); e != api.OK || !bytes.Equal(b, want) {
			t.Fatalf("Read(%d): %x %d, want %x", n, b, e, want)
		}
	case k < 34:
		b := drawnBlock(draw)
		p.write(n, bytes.Clone(b))
		if e := s.Write(n, b); e != api.OK {
			t.Fatalf("Write(%d, ..): %d", n, e)
		}
		clear(b) // what was handed in is the caller's again
	case k < 40:
		p.hold(n)
		hold(t, s, n)
	case k < 45:
		mark := draw.Intn(len(p.past) + 1)
		p.back(mark)
		back(t, s, mark)
	case k < 48:
		commits(t, s, p.commit()...)
	case k < 50:
		p.release()
		s.Release()
	case k < 56:
		if l := inOrder(p.waiting); len(l) > 0 {
			n = l[draw.Intn(len(l))].Block
			p.goHome(n)
			home(t, s, n)
		} else if e := s.Home(n); e != api.EINVAL {
			t.Fatalf("Home(%d): %d", n, e)
		}
	default:
		refusals(t, draw, s, p)
	}
}

// refusals are calls that are refused.
func refusals(t *testing.T, draw *rand.Rand, s *store.Store, p *plain) {
	t.Helper()
	blocks := len(p.disk)
	for _, n := range []int{-1 - draw.Intn(9), blocks + draw.Intn(9)} {
		_, read := s.Read(n)
		if w := s.Write(n, filled(1)); read != api.EIO || w != api.EIO {
			t.Fatalf("Read, Write(%d): %d %d", n, read, w)
		}
		if held, home := s.Hold(n), s.Home(n); held != api.EINVAL || home != api.EINVAL {
			t.Fatalf("Hold, Home(%d): %d %d", n, held, home)
		}
	}
	if e := s.Write(drawn(draw, blocks), make([]byte, draw.Intn(api.BlockSize))); e != api.EINVAL {
		t.Fatalf("Write of few bytes: %d", e)
	}
	for _, mark := range []int{-1 - draw.Intn(9), len(p.past) + 1 + draw.Intn(9)} {
		if e := s.Back(mark); e != api.EINVAL {
			t.Fatalf("Back(%d): %d", mark, e)
		}
	}
}

// P6.1 to P6.5: any calls in any order do to a store what they do to a plain one, whatever shards and room are; and of the disk nothing is written but what goes home.
func TestPlainStore(t *testing.T) {
	const blocks = api.MinBlocks
	for _, x := range [][2]int{{1, 1}, {1, 2}, {2, 1}, {3, 2}, {1, 7}, {5, 3}, {16, 1}, {16, 256}} {
		draw := rand.New(rand.NewSource(int64(7 * x[0])))
		s, d := made(t, blocks, x[0], x[1])
		p := newPlain(blocks, x[0], x[1])
		for range 3000 {
			step(t, draw, s, p)
			same(t, s, p)
			if d.Ops() != len(p.home) {
				t.Fatalf("the disk's Ops: %d, want %d", d.Ops(), len(p.home))
			}
		}
		if !sameWrites(d.Pending(), p.home) {
			t.Fatal("what went home isn't what was written to the disk")
		}
		for n := range blocks {
			want := p.read(n)
			if b, e := s.Read(n); e != api.OK || !bytes.Equal(b, want) {
				t.Fatalf("Read(%d): %x %d, want %x", n, b, e, want)
			}
			counts(t, s, p.found, p.asked)
		}
	}
}

// told is what a store answers to drawn calls, all but its Counts.
func told(s *store.Store, draw *rand.Rand, calls int) []string {
	var out []string
	tell := func(x ...any) { out = append(out, fmt.Sprint(x...)) }
	for range calls {
		n := drawn(draw, s.Blocks()+2) - 1
		switch k := draw.Intn(20); {
		case k < 7:
			b, e := s.Read(n)
			tell("Read", n, b, e)
		case k < 11:
			tell("Write", n, s.Write(n, drawnBlock(draw)))
		case k < 13:
			tell("Hold", n, s.Hold(n), s.Held(n))
		case k < 15:
			tell("Back", s.Back(draw.Intn(s.Mark()+2)), s.Mark())
		case k < 16:
			tell("Commit", s.Commit())
		case k < 17:
			s.Release()
		default:
			tell("Home", n, s.Home(n))
		}
		tell(s.Changed(), briefs(s.Waiting()))
	}
	for n := range s.Blocks() {
		b, e := s.Read(n)
		tell("Read", n, b, e, s.Held(n))
	}
	return out
}

// P6.6: stores over alike disks answer the same to the same calls, but for Counts, whatever their shards and rooms are.
func TestShardsAndRoom(t *testing.T) {
	var want []string
	var home []api.Write
	for _, shards := range []int{1, 2, 7, 16} {
		for _, room := range []int{1, 3, 256} {
			s, d := made(t, 150, shards, room)
			got := told(s, rand.New(rand.NewSource(11)), 1500)
			if want == nil {
				want, home = got, d.Pending()
			}
			for i := range want {
				if got[i] != want[i] {
					t.Fatalf("%d shards, room %d: answer %d: %s, want %s", shards, room, i, got[i], want[i])
				}
			}
			if !sameWrites(d.Pending(), home) {
				t.Fatalf("%d shards, room %d: another way home", shards, room)
			}
		}
	}
}

// seen is all that Back leaves as it was at its mark.
type seen struct {
	reads   [][]byte
	changed []int
	held    []bool
}

func see(t *testing.T, s *store.Store) seen {
	t.Helper()
	x := seen{changed: s.Changed()}
	for n := range s.Blocks() {
		b, e := s.Read(n)
		if e != api.OK {
			t.Fatalf("Read(%d): %d", n, e)
		}
		x.reads, x.held = append(x.reads, b), append(x.held, s.Held(n))
	}
	return x
}

// P6.6: back at a mark all Reads, Changed and Held are as they were there, even if blocks went home, or were read, in between.
func TestBackLeavesAsItWas(t *testing.T) {
	draw := rand.New(rand.NewSource(13))
	for range 20 {
		s, _ := made(t, api.MinBlocks, 1+draw.Intn(16), 1+draw.Intn(8))
		change := func() {
			if draw.Intn(3) == 0 {
				hold(t, s, drawn(draw, api.MinBlocks))
			} else {
				write(t, s, drawn(draw, api.MinBlocks), byte(draw.Intn(256)))
			}
		}
		for range 30 {
			change()
		}
		s.Commit()
		at := []seen{see(t, s)}
		for range 30 {
			change()
			at = append(at, see(t, s))
			if l := s.Waiting(); len(l) > 0 && draw.Intn(2) == 0 {
				home(t, s, l[draw.Intn(len(l))].Block)
			}
		}
		for mark := 30; mark >= 0; mark -= draw.Intn(8) {
			back(t, s, mark)
			if now := see(t, s); !reflect.DeepEqual(now, at[mark]) {
				t.Fatalf("back at the mark %d not all is as it was there", mark)
			}
			if mark == 0 {
				break
			}
		}
	}
}
