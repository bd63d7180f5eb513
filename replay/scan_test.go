package replay_test

import (
	"bytes"
	"slices"
	"testing"

	"hayrick/api"
	"hayrick/log"
	"hayrick/wire"
)

// P9.2, P9.4: transactions are read from the place that the head says on, round the ring, be it where it may.
func TestRoundTheRing(t *testing.T) {
	for _, g := range all() {
		ring := g.Journal - 1
		for start := range ring {
			if g == long && start%17 != 0 {
				continue
			}
			r := headed(t, g, 3, start)
			home := slices.Concat(to(1, 0, 1, 2+g.Journal), to(2, g.Blocks-1), to(3, 1))
			place := r.lays(start, 3, home[:3])
			place = r.lays(place, 4, home[3:4])
			place = r.lays(place, 5, home[4:])
			if place != (start+11)%ring {
				t.Fatalf("the draft: %d", place)
			}
			r.recovers(7, place, 3, home...)
		}
	}
}

// P9.2: a ring that is full to the last place is read whole, and no place is read again.
func TestFullRing(t *testing.T) {
	for _, start := range []int{0, 1, 40, 94} {
		for lacks := range 3 {
			r := headed(t, example, 1, start)
			var home []op
			for i := range 44 {
				home = append(home, op{150 + i, filled(byte(i))})
			}
			// 46 places, 47 less some, and 2 and as many more.
			place := r.lays(start, 1, home)
			place = r.lays(place, 2, home[lacks:], 250)
			if place = r.lays(place, 3, nil, upTo(200, 60*(1+lacks))...); place != start {
				t.Fatalf("the draft: %d", place)
			}
			r.recovers(5, start, 3, slices.Concat(home, home[lacks:])...)
		}
	}
}

// P9.2: a transaction that goes on into places that were read already is none, even if what stands there is what it lacks.
func TestNoPlaceTwice(t *testing.T) {
	const at = 90 // where the second transaction begins: 5 places of it are left
	for again := range 3 {
		r := headed(t, example, 1, 0)
		first := r.copied(1, slices.Repeat([]op{{0, filled(9)}}, 48)...)
		// The first blocks of the first transaction are copies of the second one too, and the commit of that is one of this.
		l := to(7, 150, 151, 152, 153)
		for i := range again {
			l = append(l, op{160 + i, first[i]})
		}
		second := r.committed(2, r.copied(2, l...))
		if again > 0 {
			first[again] = second[len(second)-1]
		}
		whole := r.committed(1, first, r.copied(1, to(5, upTo(200, 39)...)...))
		if len(whole) != at {
			t.Fatalf("the draft: %d", len(whole))
		}
		r.rings(at, second...)
		r.rings(0, whole...)
		r.begin()
		r.steps(false, api.OK, op{0, first[1]})
		r.told(3, at, 1, 48+39)
	}
}

// P9.2: a transaction of which the ring has too few places for the copies is none.
func TestTooFewPlaces(t *testing.T) {
	for _, entries := range []int{1, 2, 3, 47, 48} {
		r := headed(t, example, 1, 0)
		place := r.lays(0, 1, to(3, upTo(150, 48)...))
		place = r.lays(place, 2, to(4, upTo(150, 48-9)...))
		if place != 91 {
			t.Fatalf("the draft: %d", place)
		}
		// Four places are left: two copies go into them with descriptor and commit.
		l := r.committed(3, r.copied(3, to(5, upTo(100, entries)...)...))
		r.rings(place, l[:min(len(l), 4)]...)
		home := slices.Concat(to(3, upTo(150, 48)...), to(4, upTo(150, 39)...))
		if len(l) <= 4 {
			r.recovers(5, (91+len(l))%95, 3, append(home, to(5, upTo(100, entries)...)...)...)
		} else {
			r.recovers(4, 91, 2, home...)
		}
	}
}

// P9.2: descriptors and revokes stand in whatever order, and with as many entries as they like; a commit alone is a transaction too.
func TestWhateverOrder(t *testing.T) {
	a, b, c := to(1, 150), to(2, 151, 152), to(3, 150, 1)
	r := headed(t, example, 1, 92)
	parts := [][][][]byte{
		{r.copied(1, a...), r.copied(1, b...), r.revoked(1, 250), r.copied(1, c...)},
		{r.revoked(1, 250), r.revoked(1, upTo(200, 60)...), r.copied(1, a...), r.copied(1, b...), r.copied(1, c...)},
		{r.copied(1, a...), r.revoked(1, 250), r.copied(1, b...), r.revoked(1, 260), r.copied(1, c...), r.revoked(1, 270, 270)},
		{r.copied(1, slices.Concat(a, b, c)...)},
	}
	for _, p := range parts {
		r := headed(t, example, 1, 92)
		place := r.rings(92, r.committed(1, p...)...)
		r.recovers(3, place, 1, slices.Concat(a, b, c)...)
	}
	place := r.rings(92, r.committed(1)...)
	place = r.rings(place, r.committed(2)...)
	place = r.rings(place, r.committed(3, r.revoked(3, 150))...)
	place = r.lays(place, 4, a)
	r.recovers(6, place, 4, a...)
}

// P9.2: copies of one block are laid one behind the other, within a transaction and of several.
func TestCopiesOfOneBlock(t *testing.T) {
	r := headed(t, example, 1, 0)
	home := slices.Concat(to(1, 150, 151, 150), to(2, 150), to(3, 150, 150), to(4, 151))
	place := r.lays(0, 1, home[:3])
	place = r.lays(place, 2, home[3:6])
	place = r.lays(place, 3, home[6:])
	r.recovers(5, place, 3, home...)
}

// P9.2: copies of what a later transaction revokes stay where they are; its own ones and later ones are laid home.
func TestRevoked(t *testing.T) {
	r := headed(t, example, 1, 50)
	place := r.lays(50, 1, to(1, 150, 151, 152))
	place = r.lays(place, 2, to(2, 150, 151), 152)
	place = r.lays(place, 3, to(3, 151, 153), 150, 151, 299)
	place = r.lays(place, 4, to(4, 152, 150), 153)
	place = r.lays(place, 5, to(5, 153, 299))
	r.recovers(7, place, 5, slices.Concat(to(3, 151), to(4, 152, 150), to(5, 153, 299))...)
}

// P9.2: of several that revoke a block the last one counts.
func TestRevokedAgain(t *testing.T) {
	r := headed(t, example, 1, 0)
	place := r.lays(0, 1, to(1, 150))
	place = r.lays(place, 2, nil, 150)
	place = r.lays(place, 3, to(3, 150))
	place = r.lays(place, 4, nil, 150, 150)
	place = r.lays(place, 5, to(5, 151), 151)
	r.recovers(7, place, 5, to(5, 151)...)
}

// P9.2: what a transaction that is not whole would revoke, or lay home, counts for nothing.
func TestNotWholeRevokes(t *testing.T) {
	r := headed(t, example, 1, 0)
	place := r.lays(0, 1, to(1, 150, 151))
	l := r.committed(2, r.revoked(2, 150), r.copied(2, to(2, 151)...))
	r.rings(place, l[:len(l)-1]...)
	r.recovers(3, place, 1, to(1, 150, 151)...)
}

// P9.2: nothing may be laid to a block that the disk has not, or to one of the journal's; nor is anything else then.
func TestNoHome(t *testing.T) {
	for _, g := range all() {
		for _, n := range []int{2, 3, 40, g.Journal, 1 + g.Journal, g.Blocks, g.Blocks + 1, api.MaxBlocks - 1} {
			lays := func(last bool, revoked ...int) *rig {
				r := headed(t, g, 1, 4)
				place := r.lays(4, 1, append(to(1, 0), to(1, n)...))
				place = r.lays(place, 2, to(2, 1), revoked...)
				if last {
					r.lays(place, 3, to(3, n))
				}
				return r
			}
			lays(false).unclean()
			lays(false, n-1, 1).unclean()
			lays(true, n).unclean()
			// What a later one revokes isn't to be laid, and may name what it likes.
			lays(false, n).recovers(4, 12, 2, append(to(1, 0), to(2, 1)...)...)
		}
		for _, n := range []int{0, 1, 2 + g.Journal, g.Blocks - 1} {
			r := headed(t, g, 1, 4)
			r.lays(4, 1, to(1, n))
			r.recovers(3, 7, 1, to(1, n)...)
		}
	}
}

// P9.3: a copy goes home as it was ahead of its escape.
func TestEscaped(t *testing.T) {
	r := headed(t, example, 1, 0)
	home := []op{
		{150, marked(5)},
		{151, marked(5, 0, 0, 0, 0)},
		{152, marked(5, 0x48)},
		{153, marked(0x49)},
		{154, filled(0)},
	}
	place := r.lays(0, 1, home)
	for i, x := range home {
		b, _ := r.d.Read(4 + i)
		if bytes.Equal(b, x.data) != (i != 0 && i != 3) {
			t.Fatalf("the draft: copy %d: %x", i, b)
		}
	}
	// Copies that no layer 7 lays: one that is the mark itself, one that is escaped and has other bytes than noughts.
	l := r.copied(2, op{155, marked(6)}, op{156, r.committed(2)[0]})
	l = append(l, r.pack(log.Record{Kind: log.Descriptor, Seq: 2, Entries: []log.Entry{{Block: 157, Escaped: true}}}), marked(7, 1, 2, 3, 4))
	place = r.rings(place, r.committed(2, l)...)
	home = append(home, op{155, marked(6)}, op{156, r.committed(2)[0]}, op{157, marked(7)})
	r.recovers(4, place, 2, home...)
}

// upTo are the numbers from first on, n of them.
func upTo(first, n int) []int {
	var l []int
	for i := range n {
		l = append(l, first+i)
	}
	return l
}

// broken are three transactions from place 90 on, whose second one something is done to: is the first one alone found, unless the second one is whole after all?
func broken(t *testing.T, what string, whole bool, second func(r *rig) [][]byte) {
	t.Helper()
	r := headed(t, example, 6, 90)
	place := r.lays(90, 6, to(1, 150, 151))
	behind := r.rings(place, second(r)...)
	last := r.lays(behind, 8, to(3, 150))
	defer func() {
		if t.Failed() {
			t.Logf("of %s", what)
		}
	}()
	if whole {
		r.recovers(10, last, 3, slices.Concat(to(1, 150, 151), to(2, 200, 201, 202), to(3, 150))...)
	} else {
		r.recovers(8, place, 1, to(1, 150, 151)...)
	}
}

// P9.2: reading ends at the first transaction that is not there, even if others are behind it.
func TestBroken(t *testing.T) {
	writes := to(2, 200, 201, 202)
	for _, x := range []struct {
		what   string
		whole  bool
		second func(r *rig) [][]byte
	}{
		{"a whole one", true, func(r *rig) [][]byte { return r.committed(7, r.copied(7, writes...)) }},
		{"noughts", false, func(r *rig) [][]byte { return [][]byte{filled(0)} }},
		{"nothing", false, func(r *rig) [][]byte { return nil }},
		{"one whose commit lacks", false, func(r *rig) [][]byte { return r.copied(7, writes...) }},
		{"one whose descriptor lacks", false, func(r *rig) [][]byte { return r.committed(7, r.copied(7, writes...))[1:] }},
		{"one whose copy lacks", false, func(r *rig) [][]byte { return slices.Delete(r.committed(7, r.copied(7, writes...)), 2, 3) }},
		{"one with a copy more", false, func(r *rig) [][]byte { return r.committed(7, r.copied(7, writes...), [][]byte{filled(9)}) }},
		{"a lesser number", false, func(r *rig) [][]byte { return r.committed(6, r.copied(6, writes...)) }},
		{"a greater number", false, func(r *rig) [][]byte { return r.committed(8, r.copied(8, writes...)) }},
		{"a descriptor of another number", false, func(r *rig) [][]byte { return r.committed(7, r.copied(6, writes...)) }},
		{"a revoke of another number", false, func(r *rig) [][]byte { return r.committed(7, r.copied(7, writes...), r.revoked(8, 250)) }},
		{"a commit of another number", false, func(r *rig) [][]byte {
			l := r.copied(7, writes...)
			return append(l, r.committed(8, l)[len(l)])
		}},
		{"a head within", false, func(r *rig) [][]byte {
			return r.committed(7, r.copied(7, writes...), [][]byte{r.pack(log.Record{Kind: log.Head, Seq: 7})})
		}},
		{"a head in the commit's place", false, func(r *rig) [][]byte {
			return append(r.copied(7, writes...), r.pack(log.Record{Kind: log.Head, Seq: 7, Start: 3}))
		}},
		{"a sum of nothing", false, func(r *rig) [][]byte { return append(r.copied(7, writes...), r.committed(7)...) }},
		{"a sum with another seed", false, func(r *rig) [][]byte {
			l := r.copied(7, writes...)
			sum := wire.Crc(8, slices.Concat(l...))
			return append(l, r.pack(log.Record{Kind: log.Commit, Seq: 7, Sum: sum}))
		}},
		{"a sum of nought", false, func(r *rig) [][]byte {
			return append(r.copied(7, writes...), r.pack(log.Record{Kind: log.Commit, Seq: 7}))
		}},
		{"copies in another order", false, func(r *rig) [][]byte {
			l := r.committed(7, r.copied(7, to(2, 200, 201)...), r.copied(7, to(4, 202)...))
			l[2], l[4] = l[4], l[2]
			return l
		}},
	} {
		broken(t, x.what, x.whole, x.second)
	}
}

// P9.2: a transaction one bit of which is turned is not there, wherever the bit is.
func TestTurnedBit(t *testing.T) {
	writes := to(2, 200, 201, 202)
	for place := range 6 {
		for bit := range 8 * api.BlockSize {
			if bit%7 != 0 && bit > 600 {
				continue
			}
			broken(t, "a turned bit", false, func(r *rig) [][]byte {
				l := r.committed(7, r.copied(7, writes...), r.revoked(7, 250))
				l[place][bit/8] ^= 1 << (bit % 8)
				return l
			})
		}
	}
}
