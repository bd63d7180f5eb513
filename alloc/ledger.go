package alloc

import (
	"iter"

	"hayrick/api"
	"hayrick/bits"
	"hayrick/layout"
	"hayrick/store"
)

// ledger is what a store's blocks say of what is taken.
type ledger struct {
	s *store.Store
	counts
}

// bitmap is a group's, of its blocks or of its inodes.
type bitmap struct {
	at   int // the block in which it stands
	size int // how many bits
	data []byte
}

// open reads the first two blocks. A store without blocks has nothing there, which is none of them.
func open(s *store.Store) (*ledger, api.Errno) {
	b, _ := s.Read(superAt)
	super, e := layout.UnpackSuper(b)
	if e != api.OK || super.Geometry.Blocks != s.Blocks() {
		return nil, api.EUCLEAN
	}
	b, _ = s.Read(groupsAt)
	groups, e := layout.UnpackGroups(b, layout.Groups(super.Geometry))
	if e != api.OK {
		return nil, api.EUCLEAN
	}
	return &ledger{s, counts{super, groups}}, api.OK
}

// whole does something to a store's blocks, or nothing at all.
func whole(s *store.Store, do func(*ledger) api.Errno) api.Errno {
	l, e := open(s)
	if e != api.OK {
		return e
	}
	mark := s.Mark()
	e = do(l)
	if e != api.OK {
		s.Back(mark)
	}
	return e
}

// round tells all groups, from one on, in order, and round.
func (l *ledger) round(first int) iter.Seq[int] {
	return func(yield func(int) bool) {
		n := len(l.groups)
		for i := range n {
			if !yield((first + i) % n) {
				return
			}
		}
	}
}

// read is the bitmap that stands in a block.
func (l *ledger) read(at, size int) (bitmap, api.Errno) {
	b, e := l.s.Read(at)
	if e != api.OK {
		return bitmap{}, e
	}
	if e := bits.Check(b, size, uint32(at)); e != api.OK {
		return bitmap{}, e
	}
	return bitmap{at, size, b}, api.OK
}

// turn lets bits of a bitmap be taken, or free.
func (l *ledger) turn(x bitmap, from, n int, taken bool) api.Errno {
	b, e := bits.Turn(x.data, x.size, from, n, taken, uint32(x.at))
	if e != api.OK {
		return e
	}
	return l.s.Write(x.at, b)
}

// count lets the first two blocks say that there is more of a group, or less.
func (l *ledger) count(group int, more api.Group) api.Errno {
	l.add(group, more)
	writes, e := l.pack()
	if e != api.OK {
		return e
	}
	for _, w := range writes {
		if e := l.s.Write(w.Block, w.Data); e != api.OK {
			return e
		}
	}
	return api.OK
}
