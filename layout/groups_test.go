package layout_test

import (
	"bytes"
	"encoding/hex"
	"math"
	"math/rand"
	"slices"
	"testing"

	"hayrick/api"
	"hayrick/layout"
)

// plainGroups is the chapter's block of groups that may be.
func plainGroups(l []api.Group) []byte {
	var b []byte
	for _, x := range l {
		b = four(b, x.FreeBlocks, x.FreeInodes, x.Dirs)
	}
	return laid(b, 1)
}

// someGroups are n groups, whose numbers are told from one another.
func someGroups(n int) []api.Group {
	var l []api.Group
	for i := range n {
		l = append(l, api.Group{FreeBlocks: 2000 - i, FreeInodes: 300 + i, Dirs: 1 + i})
	}
	return l
}

// rows are groups that may be, 1 to MaxGroups of them, at the edges of each number.
func rows() [][]api.Group {
	draw := rand.New(rand.NewSource(5))
	var out [][]api.Group
	for n := 1; n <= 14; n++ {
		out = append(out, someGroups(n), make([]api.Group, n), slices.Repeat([]api.Group{{FreeBlocks: 65535, FreeInodes: 65535, Dirs: 65535}}, n))
		for range 20 {
			l := make([]api.Group, n)
			for i := range l {
				l[i] = api.Group{FreeBlocks: draw.Intn(65536), FreeInodes: draw.Intn(65536), Dirs: draw.Intn(65536)}
			}
			out = append(out, l)
		}
	}
	return out
}

// P4.4: a block by its bytes.
func TestGroupsBytes(t *testing.T) {
	want, _ := hex.DecodeString("5c000000" + "0f000000" + "01000000" + "ffff0000" + "00010000" + "00000000")
	b, e := layout.PackGroups([]api.Group{{FreeBlocks: 92, FreeInodes: 15, Dirs: 1}, {FreeBlocks: 65535, FreeInodes: 256}})
	if e != api.OK || !bytes.Equal(b, laid(want, 1)) {
		t.Errorf("PackGroups: %x %d", b, e)
	}
}

// P4.4, P4.5: each row that may be is packed as the chapter says, and Unpack of it is it.
func TestGroupsPlain(t *testing.T) {
	for _, l := range rows() {
		given := slices.Clone(l)
		b, e := layout.PackGroups(l)
		if e != api.OK || !bytes.Equal(b, plainGroups(l)) || !slices.Equal(l, given) {
			t.Fatalf("PackGroups(%v): %x %d", l, b, e)
		}
		kept := bytes.Clone(b)
		if got, e := layout.UnpackGroups(b, len(l)); e != api.OK || !slices.Equal(got, l) || !bytes.Equal(b, kept) {
			t.Fatalf("UnpackGroups of %v: %v %d", l, got, e)
		}
	}
}

// P4.4: too few, too many, or a number that is not 0 to 65535.
func TestGroupsWrong(t *testing.T) {
	wrong := func(l []api.Group) {
		t.Helper()
		if b, e := layout.PackGroups(l); b != nil || e != api.EINVAL {
			t.Errorf("PackGroups(%v): %x %d", l, b, e)
		}
	}
	wrong(nil)
	wrong([]api.Group{})
	for _, n := range []int{15, 16, 21, 22, 100, 400} {
		wrong(make([]api.Group, n))
	}
	for _, n := range []int{1, 2, 14} {
		for _, x := range []int{math.MinInt, math.MinInt32, -1 << 32, -65536, -1, 65536, 65537, 1 << 31, 1<<32 - 1, 1 << 32, 1<<32 + 1, math.MaxInt} {
			for i := range n {
				for _, field := range []func(*api.Group) *int{
					func(g *api.Group) *int { return &g.FreeBlocks },
					func(g *api.Group) *int { return &g.FreeInodes },
					func(g *api.Group) *int { return &g.Dirs },
				} {
					l := someGroups(n)
					*field(&l[i]) = x
					wrong(l)
					if 0 <= x && x < 1<<32 {
						noGroups(t, plainGroups(l), n)
					}
				}
			}
		}
	}
}

func noGroups(t *testing.T, b []byte, n int) {
	t.Helper()
	kept := bytes.Clone(b)
	if l, e := layout.UnpackGroups(b, n); len(l) != 0 || e != api.EUCLEAN {
		t.Fatalf("UnpackGroups(%x, %d): %v %d", b, n, l, e)
	}
	if !bytes.Equal(b, kept) {
		t.Fatal("UnpackGroups changed what it was given")
	}
}

// P4.4: n is asked for ahead of the bytes.
func TestUnpackGroupsNumber(t *testing.T) {
	for _, b := range [][]byte{nil, make([]byte, 256), laid(nil, 1), plainGroups(someGroups(14)), plainGroups(someGroups(1))} {
		for _, n := range []int{math.MinInt, -1 << 32, -14, -1, 0, 15, 16, 21, 22, 1 << 32, 1<<32 + 1, math.MaxInt / 12, math.MaxInt} {
			if l, e := layout.UnpackGroups(b, n); len(l) != 0 || e != api.EINVAL {
				t.Errorf("UnpackGroups(%d bytes, %d): %v %d", len(b), n, l, e)
			}
		}
	}
}

// P4.4: a block of more groups is none of fewer, unless those behind are all noughts; one of fewer is one of more, with noughts.
func TestUnpackGroupsOther(t *testing.T) {
	for n := 1; n <= 14; n++ {
		b := plainGroups(someGroups(n))
		for m := 1; m <= 14; m++ {
			if m < n {
				noGroups(t, b, m)
				continue
			}
			want := append(someGroups(n), make([]api.Group, m-n)...)
			if l, e := layout.UnpackGroups(b, m); e != api.OK || !slices.Equal(l, want) {
				t.Errorf("UnpackGroups of %d, %d: %v %d", n, m, l, e)
			}
		}
		for _, at := range []int{12 * n, 251} {
			other := bytes.Clone(b)
			other[at] = 1
			noGroups(t, seal(other, 1), n)
		}
	}
}

// P4.4, P4.5: no bit may be turned; and where it is and the block is sealed again, either it is none, or it is packed of what it says.
func TestGroupsTurned(t *testing.T) {
	for _, n := range []int{1, 3, 14} {
		good := plainGroups(someGroups(n))
		for i := range 8 * 256 {
			b := bytes.Clone(good)
			b[i/8] ^= 1 << (i % 8)
			noGroups(t, b, n)
			if i/8 >= 252 {
				continue
			}
			l, e := layout.UnpackGroups(seal(b, 1), n)
			// The two lower bytes of a number may have any bits, no others.
			if may := i < 8*12*n && i%32 < 16; may != (e == api.OK) {
				t.Fatalf("%d groups, bit %d: %v %d", n, i, l, e)
			}
			if e != api.OK {
				noGroups(t, b, n)
				continue
			}
			if again, e := layout.PackGroups(l); e != api.OK || !bytes.Equal(again, b) {
				t.Fatalf("%d groups, bit %d: %v is packed as %x %d", n, i, l, again, e)
			}
		}
	}
}

// P4.4: bytes that are no such block.
func TestNoGroups(t *testing.T) {
	good := plainGroups(someGroups(14))
	for n := 1; n <= 14; n++ {
		for _, size := range []int{0, 1, 4, 12, 16, 128, 168, 172, 252, 255, 257, 260, 512} {
			b := make([]byte, size)
			copy(b, good)
			noGroups(t, b, n)
			if size >= 4 {
				noGroups(t, seal(b, 1), n)
			}
		}
		noGroups(t, nil, n)
		noGroups(t, make([]byte, 256), n)
		noGroups(t, bytes.Repeat([]byte{255}, 256), n)
		for _, seed := range []uint32{0, 2, 0x80000001, math.MaxUint32} {
			noGroups(t, laid(plainGroups(someGroups(n))[:252], seed), n)
		}
		noGroups(t, plainSuper(someSuper()), n)
	}
}

// R3: what is answered is new memory.
func TestGroupsShared(t *testing.T) {
	l := someGroups(3)
	first, _ := layout.PackGroups(l)
	second, _ := layout.PackGroups(l)
	got, _ := layout.UnpackGroups(first, 3)
	other, _ := layout.UnpackGroups(first, 3)
	for i := range first {
		first[i] = 9
	}
	l[0], got[1] = api.Group{}, api.Group{}
	if !bytes.Equal(second, plainGroups(someGroups(3))) || !slices.Equal(other, someGroups(3)) || got[0] != someGroups(3)[0] {
		t.Errorf("%x %v %v", second, got, other)
	}
}
