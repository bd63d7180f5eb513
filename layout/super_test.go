package layout_test

import (
	"bytes"
	"encoding/binary"
	"encoding/hex"
	"hash/crc32"
	"math"
	"math/rand"
	"slices"
	"testing"

	"hayrick/api"
	"hayrick/layout"
)

// seal writes the sum of all ahead into the last four bytes, by another way than package wire's.
func seal(b []byte, seed uint32) []byte {
	at := len(b) - 4
	binary.LittleEndian.PutUint32(b[at:], crc32.Update(seed, crc32.MakeTable(crc32.Castagnoli), b[:at]))
	return b
}

// laid is a sealed block that begins with these bytes.
func laid(begin []byte, seed uint32) []byte {
	b := make([]byte, 256)
	copy(b, begin)
	return seal(b, seed)
}

func four(b []byte, numbers ...int) []byte {
	for _, x := range numbers {
		b = binary.LittleEndian.AppendUint32(b, uint32(x))
	}
	return b
}

// plainSuper is the chapter's block of a super that may be.
func plainSuper(s api.Super) []byte {
	b := []byte{0x49, 0x52, 0x59, 0x48, 1, 0}
	g := s.Geometry
	b = four(b, g.Blocks, g.PerGroup, g.Inodes, g.Journal, s.FreeBlocks, s.FreeInodes, s.Orphan, s.Mounts)
	if s.Clean {
		return laid(append(b, 1), 0)
	}
	return laid(append(b, 0), 0)
}

// someSuper is one of the chapter's geometry, whose numbers are told from one another.
func someSuper() api.Super {
	return api.Super{Geometry: small, FreeBlocks: 182, FreeInodes: 31, Orphan: 17, Mounts: 0x01020304, Clean: true}
}

// supers are such that may be, at the edges of each number.
func supers() []api.Super {
	var out []api.Super
	for i, g := range standing() {
		if i%20 > 0 && g != small {
			continue
		}
		blocks, inodes := g.Blocks-layout.Fixed(g), g.Inodes*layout.Groups(g)
		for _, clean := range []bool{false, true} {
			out = append(out,
				api.Super{Geometry: g, Clean: clean},
				api.Super{Geometry: g, FreeBlocks: blocks, Clean: clean},
				api.Super{Geometry: g, FreeInodes: inodes, Clean: clean},
				api.Super{Geometry: g, Orphan: inodes, Clean: clean},
				api.Super{Geometry: g, Mounts: math.MaxInt32, Clean: clean},
				api.Super{Geometry: g, FreeBlocks: blocks / 2, FreeInodes: inodes / 3, Orphan: 1, Mounts: 70000, Clean: clean},
				api.Super{Geometry: g, FreeBlocks: blocks, FreeInodes: inodes, Orphan: inodes, Mounts: math.MaxInt32, Clean: clean})
		}
	}
	return append(out, someSuper())
}

// P4.3: a block by its bytes, and its sum.
func TestSuperBytes(t *testing.T) {
	want, _ := hex.DecodeString("49525948" + "0100" + "2c010000" + "c8000000" + "10000000" + "60000000" + "b6000000" + "1f000000" + "11000000" + "04030201" + "01")
	b, e := layout.PackSuper(someSuper())
	if e != api.OK || len(b) != 256 || !bytes.HasPrefix(b, want) {
		t.Fatalf("PackSuper: %x %d", b, e)
	}
	if !bytes.Equal(b[len(want):252], make([]byte, 252-len(want))) {
		t.Errorf("no noughts behind: %x", b)
	}
	if sum := binary.LittleEndian.Uint32(b[252:]); sum != crc32.Checksum(b[:252], crc32.MakeTable(crc32.Castagnoli)) {
		t.Errorf("sum: %08X", sum)
	}
}

// P4.3, P4.5: each super that may be is packed as the chapter says, and Unpack of it is it.
func TestSuperPlain(t *testing.T) {
	for _, s := range supers() {
		b, e := layout.PackSuper(s)
		if e != api.OK || !bytes.Equal(b, plainSuper(s)) {
			t.Fatalf("PackSuper(%v): %x %d", s, b, e)
		}
		kept := bytes.Clone(b)
		if got, e := layout.UnpackSuper(b); e != api.OK || got != s {
			t.Fatalf("UnpackSuper of %v: %v %d", s, got, e)
		}
		if !bytes.Equal(b, kept) {
			t.Fatalf("UnpackSuper changed what it was given")
		}
	}
}

// wrongSupers are such that may not be, by one number each.
func wrongSupers() []api.Super {
	var out []api.Super
	for _, s := range supers() {
		g := s.Geometry
		blocks, inodes := g.Blocks-layout.Fixed(g), g.Inodes*layout.Groups(g)
		far := []int{math.MinInt, math.MinInt32, -1 << 32, -1, 1 << 31, 1 << 32, math.MaxInt}
		for _, x := range append(far, blocks+1, g.Blocks) {
			w := s
			w.FreeBlocks = x
			out = append(out, w)
		}
		for _, x := range append(far, inodes+1) {
			w, v := s, s
			w.FreeInodes, v.Orphan = x, x
			out = append(out, w, v)
		}
		for _, x := range far {
			w := s
			w.Mounts = x
			out = append(out, w)
		}
	}
	s := someSuper()
	for _, g := range edges() {
		if !plainMayBe(g) {
			s.Geometry = g
			s.FreeBlocks, s.FreeInodes, s.Orphan = 0, 0, 0
			out = append(out, s)
		}
	}
	return out
}

// P4.3: what may not be is not packed; where its numbers go into their widths, a block that says it is none.
func TestSuperWrong(t *testing.T) {
	goes := func(l ...int) bool {
		return !slices.ContainsFunc(l, func(x int) bool { return x < 0 || x > math.MaxUint32 })
	}
	laidToo := 0
	for _, s := range wrongSupers() {
		if b, e := layout.PackSuper(s); b != nil || e != api.EINVAL {
			t.Fatalf("PackSuper(%v): %x %d", s, b, e)
		}
		g := s.Geometry
		if goes(g.Blocks, g.PerGroup, g.Inodes, g.Journal, s.FreeBlocks, s.FreeInodes, s.Orphan, s.Mounts) {
			noSuper(t, plainSuper(s))
			laidToo++
		}
	}
	if laidToo < 1000 {
		t.Errorf("only %d were laid", laidToo)
	}
}

func noSuper(t *testing.T, b []byte) {
	t.Helper()
	kept := bytes.Clone(b)
	if s, e := layout.UnpackSuper(b); s != (api.Super{}) || e != api.EUCLEAN {
		t.Fatalf("UnpackSuper(%x): %v %d", b, s, e)
	}
	if !bytes.Equal(b, kept) {
		t.Fatal("UnpackSuper changed what it was given")
	}
}

// P4.3, P4.5: no bit may be turned; and where it is and the block is sealed again, either it is none, or it is packed of what it says.
func TestSuperTurned(t *testing.T) {
	good := plainSuper(someSuper())
	others := 0
	for i := range 8 * 256 {
		b := bytes.Clone(good)
		b[i/8] ^= 1 << (i % 8)
		noSuper(t, b)
		if i/8 >= 252 {
			continue
		}
		s, e := layout.UnpackSuper(seal(b, 0))
		switch {
		case e == api.OK:
			others++
			if again, e := layout.PackSuper(s); e != api.OK || !bytes.Equal(again, b) {
				t.Errorf("bit %d: %v is packed as %x %d", i, s, again, e)
			}
		case s != (api.Super{}) || e != api.EUCLEAN:
			t.Errorf("bit %d: %v %d", i, s, e)
		}
		// The mark, the version, what is neither clean nor not, the noughts.
		if e == api.OK && (i < 8*6 || i > 8*38) {
			t.Errorf("bit %d: told as %v", i, s)
		}
	}
	if others == 0 {
		t.Error("no bit turned told another super")
	}
}

// P4.3: bytes that are no such block.
func TestNoSuper(t *testing.T) {
	good := plainSuper(someSuper())
	for _, n := range []int{0, 1, 4, 39, 43, 128, 252, 255, 257, 260, 512} {
		b := make([]byte, n)
		copy(b, good)
		noSuper(t, b)
		if n >= 4 {
			noSuper(t, seal(b, 0))
		}
	}
	noSuper(t, nil)
	noSuper(t, make([]byte, 256))
	noSuper(t, laid(nil, 0))
	noSuper(t, bytes.Repeat([]byte{255}, 256))
	for _, seed := range []uint32{1, 2, 0x80000000, math.MaxUint32} {
		noSuper(t, laid(good[:252], seed))
	}
	for at, x := range map[int]byte{0: 0, 3: 0x49, 4: 2, 5: 1, 38: 2, 39: 1, 251: 1} {
		b := bytes.Clone(good)
		b[at] = x
		noSuper(t, seal(b, 0))
	}
	noSuper(t, plainGroups([]api.Group{{FreeBlocks: 92, FreeInodes: 16}, {FreeBlocks: 90, FreeInodes: 16}}))
	draw := rand.New(rand.NewSource(4))
	for range 2000 {
		b := make([]byte, 256)
		draw.Read(b)
		noSuper(t, b)
		copy(b, good[:6])
		noSuper(t, seal(b, 0))
	}
}

// R3: what is answered is new memory.
func TestSuperShared(t *testing.T) {
	first, _ := layout.PackSuper(someSuper())
	second, _ := layout.PackSuper(someSuper())
	s, _ := layout.UnpackSuper(first)
	for i := range first {
		first[i] = 9
	}
	if !bytes.Equal(second, plainSuper(someSuper())) || s != someSuper() {
		t.Errorf("%x %v", second, s)
	}
}
