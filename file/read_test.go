package file_test

import (
	"bytes"
	"math"
	"slices"
	"testing"

	"hayrick/api"
	"hayrick/file"
	"hayrick/store"
)

// holed is a file of which the blocks 1, 2, 5 and 6 lie in the blocks 150, 151, 140 and 152 of s; it ends within a hole.
func holed(t *testing.T, s *store.Store) (api.Inode, []byte) {
	t.Helper()
	r := of(t, 7*256+9, []api.Extent{{Logical: 1, Length: 2, Physical: 150}, {Logical: 5, Length: 1, Physical: 140}, {Logical: 6, Length: 1, Physical: 152}}, s)
	want := make([]byte, r.Size)
	for block, at := range map[int]int{1: 150, 2: 151, 5: 140, 6: 152} {
		b := count(256, block)
		s.Write(at, b)
		copy(want[block*256:], b)
	}
	return r, want
}

// P14.1: each byte from each offset on is the file's, in holes and out of them, and none from its end on.
func TestRead(t *testing.T) {
	s := made(t, example)
	r, want := holed(t, s)
	edges := []int{0, 1, 2, 10, 255, 256, 257, 511, 512, 513, 767, 768, 769, 1279, 1280, 1281, 1500, 1535, 1536, 1791, 1792, 1793, 1799, 1800, 1801, 1802, 2047, 2048, 65535, 65536, 65537}
	for _, off := range append(edges, beyond...) {
		for _, n := range append(edges, beyond...) {
			from := min(off, len(want))
			reads(t, s, r, off, n, want[from:from+min(n, len(want)-from)], api.OK)
		}
	}
	for size := range 2 * 256 {
		r.Size = size
		reads(t, s, r, 0, math.MaxInt, want[:size], api.OK)
		reads(t, s, r, 200, 200, want[min(200, size):min(400, size)], api.OK)
	}
}

// P14.1: a file may have 65536 bytes, and all of its blocks; a row of bytes may be read of any kind.
func TestReadWhole(t *testing.T) {
	s := made(t, wide)
	var l []api.Extent
	var want []byte
	for i := range 256 {
		at := 1000 + 2*i
		l = append(l, api.Extent{Logical: i, Length: 1, Physical: at})
		b := count(256, i)
		s.Write(at, b)
		want = append(want, b...)
	}
	r := of(t, 65536, l, s)
	for _, kind := range []int{api.KindFile, api.KindDir} {
		r.Kind = kind
		reads(t, s, r, 0, 65536, want, api.OK)
		reads(t, s, r, 65535, 2, want[65535:], api.OK)
		reads(t, s, r, 65536, 1, nil, api.OK)
		reads(t, s, r, 30000, 2048, want[30000:32048], api.OK)
	}
	r.Kind, r.Size = api.KindLink, 512
	reads(t, s, r, 100, 1000, want[100:512], api.OK)
}

// P14.1: what was changed last is read, be it committed, home or neither.
func TestReadLast(t *testing.T) {
	s := made(t, example)
	r, want := holed(t, s)
	for i, way := range []func(){func() {}, func() { s.Commit() }, func() { home(s) }} {
		way()
		reads(t, s, r, 0, 65536, want, api.OK)
		b := count(256, 90+i)
		s.Write(140, b)
		copy(want[5*256:], b)
		reads(t, s, r, 0, 65536, want, api.OK)
	}
}

// P14.1: EINVAL of a record that may not be, ahead of EUCLEAN of its root, ahead of EINVAL of numbers below 0.
func TestReadWrong(t *testing.T) {
	for _, s := range []*store.Store{nil, {}, nobody(t), made(t, example)} {
		for _, r := range wrongs() {
			reads(t, s, r, 0, 10, nil, api.EINVAL)
			if len(r.Root) == 48 {
				r.Root[47] = 1
			}
			reads(t, s, r, -1, -1, nil, api.EINVAL)
		}
		for _, r := range unclean() {
			for _, n := range append([]int{0, 10}, below...) {
				reads(t, s, r, n, 10, nil, api.EUCLEAN)
				reads(t, s, r, 0, n, nil, api.EUCLEAN)
			}
		}
		for _, n := range below {
			reads(t, s, empty(), n, 10, nil, api.EINVAL)
			reads(t, s, empty(), 0, n, nil, api.EINVAL)
			reads(t, s, empty(), n, n, nil, api.EINVAL)
		}
		reads(t, s, empty(), 0, 10, nil, api.OK)
		r := empty()
		r.Size = 300 // holes are noughts, whatever the store is
		reads(t, s, r, 250, 100, make([]byte, 50), api.OK)
	}
}

// P14.1: EUCLEAN, if one of the blocks that are asked for is none of the store's; the others go.
func TestReadOutside(t *testing.T) {
	s := made(t, example)
	s.Write(299, count(256, 1))
	r := of(t, 4*256, []api.Extent{{Logical: 0, Length: 1, Physical: 4095}, {Logical: 2, Length: 2, Physical: 299}}, s)
	want := slices.Concat(make([]byte, 512), count(256, 1), make([]byte, 256))
	for _, x := range []struct {
		off, n int
		f      api.Errno
	}{{0, 1, api.EUCLEAN}, {255, 1, api.EUCLEAN}, {255, 2, api.EUCLEAN}, {256, 512, api.OK}, {256, 513, api.EUCLEAN}, {768, 1, api.EUCLEAN}, {1023, 1, api.EUCLEAN}, {0, 0, api.OK}, {800, 0, api.OK}, {1024, 1, api.OK}} {
		got := want[x.off:min(x.off+x.n, 1024)]
		if x.f != api.OK {
			got = nil
		}
		reads(t, s, r, x.off, x.n, got, x.f)
	}
	r.Size = 768
	reads(t, s, r, 256, 1000, want[256:768], api.OK)
}

// R3: what is answered is new memory.
func TestReadShared(t *testing.T) {
	s := made(t, example)
	r, want := holed(t, s)
	b, _ := file.Read(s, r, 0, 65536)
	for i := range b {
		b[i]++
	}
	if again, e := file.Read(s, r, 0, 65536); e != api.OK || !bytes.Equal(again, want) {
		t.Errorf("%x %d", again, e)
	}
}
