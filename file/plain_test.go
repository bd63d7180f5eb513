package file_test

import (
	"bytes"
	"slices"

	"hayrick/alloc"
	"hayrick/api"
	"hayrick/extent"
	"hayrick/inode"
	"hayrick/store"
)

// row is where each block of a file lies; 0: it is a hole.
type row [256]int

// rowOf is the row of a list that may be.
func rowOf(l []api.Extent) row {
	var r row
	for _, x := range l {
		for i := range x.Length {
			r[x.Logical+i] = x.Physical + i
		}
	}
	return r
}

// list is the one list of a row that may be.
func (r row) list() []api.Extent {
	var l []api.Extent
	for i, at := range r {
		switch {
		case at == 0:
		case i > 0 && r[i-1] > 0 && at == r[i-1]+1:
			l[len(l)-1].Length++
		default:
			l = append(l, api.Extent{Logical: i, Length: 1, Physical: at})
		}
	}
	return l
}

// blocks are how many a row has.
func (r row) blocks() int {
	n := 0
	for _, at := range r {
		if at != 0 {
			n++
		}
	}
	return n
}

// plainOpen is how all calls begin.
func plainOpen(s *store.Store, r api.Inode) (row, api.Errno) {
	if e := inode.Check(r); e != api.OK {
		return row{}, e
	}
	l, _, e := extent.Read(s, r.Root)
	return rowOf(l), e
}

// plainRead is P14.1, byte by byte.
func plainRead(s *store.Store, r api.Inode, off, n int) ([]byte, api.Errno) {
	places, e := plainOpen(s, r)
	if e != api.OK {
		return nil, e
	}
	if off < 0 || n < 0 {
		return nil, api.EINVAL
	}
	var l []byte
	for i := off; i < r.Size && len(l) < n; i++ {
		if places[i/256] == 0 {
			l = append(l, 0)
			continue
		}
		b, e := s.Read(places[i/256])
		if e != api.OK {
			return nil, api.EUCLEAN
		}
		l = append(l, b[i%256])
	}
	return l, api.OK
}

// plainTree lays what a row says; the record of it.
func plainTree(s *store.Store, r api.Inode, places row, goal int) (api.Inode, api.Errno) {
	root, more, e := extent.Write(s, r.Root, places.list(), goal)
	if e != api.OK {
		return api.Inode{}, e
	}
	r.Root, r.Blocks = root, r.Blocks+more
	return r, api.OK
}

// plainFill takes blocks for the holes among the blocks from first to last: where they lie, how many were taken, and at which one there is no room (behind last: there was).
func plainFill(s *store.Store, places row, first, last, goal int) (row, int, int, api.Errno) {
	taken := 0
	for k := first; k <= last; k++ {
		if places[k] != 0 {
			continue
		}
		want := 1
		for k+want <= last && places[k+want] == 0 {
			want++
		}
		where := goal
		if k > 0 && places[k-1] != 0 {
			where = places[k-1] + 1
		}
		at, n, e := alloc.Blocks(s, where, want)
		if e == api.ENOSPC {
			return places, taken, k, api.OK
		}
		if e != api.OK {
			return row{}, 0, 0, e
		}
		for i := range n {
			places[k+i] = at + i
		}
		taken += n
	}
	return places, taken, last + 1, api.OK
}

// plainWrite is P14.2.
func plainWrite(s *store.Store, r api.Inode, off int, data []byte, goal int) (api.Inode, int, api.Errno) {
	old, e := plainOpen(s, r)
	if e == api.OK && off < 0 {
		e = api.EINVAL
	}
	m := min(len(data), 2048)
	if e == api.OK && m > 0 && off >= 65536 {
		e = api.EFBIG
	}
	if e != api.OK || m == 0 {
		if e != api.OK {
			r = api.Inode{}
		}
		return r, 0, e
	}
	m = min(m, 65536-off)
	mark := s.Mark()
	fail := func(e api.Errno) (api.Inode, int, api.Errno) {
		s.Back(mark)
		return api.Inode{}, 0, e
	}
	first, last := off/256, (off+m-1)/256
	places, taken, stop, e := plainFill(s, old, first, last, goal)
	if e != api.OK {
		return fail(e)
	}
	if stop == first {
		return fail(api.ENOSPC)
	}
	if stop <= last {
		m, last = stop*256-off, stop-1
	}
	r.Blocks += taken
	if r, e = plainTree(s, r, places, goal); e != api.OK {
		return fail(e)
	}
	for k := first; k <= last; k++ {
		b := make([]byte, 256)
		if old[k] != 0 {
			if b, e = s.Read(old[k]); e != api.OK {
				return fail(api.EUCLEAN)
			}
		}
		for i := range b {
			if at := k*256 + i; off <= at && at < off+m {
				b[i] = data[at-off]
			}
		}
		if s.Write(places[k], b) != api.OK {
			return fail(api.EUCLEAN)
		}
	}
	if r.Size < off+m {
		r.Size = off + m
	}
	return r, m, api.OK
}

// plainTruncate is P14.3.
func plainTruncate(s *store.Store, r api.Inode, size int) (api.Inode, api.Errno) {
	places, e := plainOpen(s, r)
	switch {
	case e != api.OK:
		return api.Inode{}, e
	case size < 0:
		return api.Inode{}, api.EINVAL
	case size > 65536:
		return api.Inode{}, api.EFBIG
	case size >= r.Size:
		r.Size = size
		return r, api.OK
	}
	mark := s.Mark()
	r, e = plainCut(s, r, places, size)
	if e != api.OK {
		s.Back(mark)
		return api.Inode{}, e
	}
	return r, api.OK
}

// plainCut is P14.3 of a size that is less.
func plainCut(s *store.Store, r api.Inode, places row, size int) (api.Inode, api.Errno) {
	gone := places
	for k := range places {
		if k*256 >= size {
			places[k] = 0
		} else {
			gone[k] = 0
		}
	}
	for _, x := range gone.list() {
		if e := alloc.Free(s, x.Physical, x.Length); e != api.OK {
			return api.Inode{}, e
		}
	}
	r.Blocks -= gone.blocks()
	r, e := plainTree(s, r, places, 0)
	if e != api.OK {
		return api.Inode{}, e
	}
	r.Size = size
	if size%256 == 0 || places[size/256] == 0 {
		return r, api.OK
	}
	b, e := s.Read(places[size/256])
	if e != api.OK {
		return api.Inode{}, api.EUCLEAN
	}
	blank := slices.Concat(b[:size%256], make([]byte, 256-size%256))
	if !bytes.Equal(b, blank) {
		s.Write(places[size/256], blank)
	}
	return r, api.OK
}
