package file

import (
	"bytes"

	"hayrick/api"
	"hayrick/extent"
	"hayrick/inode"
	"hayrick/store"
)

// body is a file that is read or changed: its record and its extents, as they are by now.
type body struct {
	s *store.Store
	r api.Inode
	l []api.Extent
}

// open is the body of a record.
func open(s *store.Store, r api.Inode) (*body, api.Errno) {
	if e := inode.Check(r); e != api.OK {
		return nil, e
	}
	l, _, e := extent.Read(s, r.Root)
	if e != api.OK {
		return nil, e
	}
	r.Root = bytes.Clone(r.Root) // what is answered shares nothing with what was handed in
	return &body{s, r, l}, api.OK
}

// change does something to a file: its record as it is then. What is refused leaves the store as it was.
func change(s *store.Store, r api.Inode, do func(*body) api.Errno) (api.Inode, api.Errno) {
	b, e := open(s, r)
	if e != api.OK {
		return api.Inode{}, e
	}
	mark := s.Mark()
	if e := do(b); e != api.OK {
		s.Back(mark)
		return api.Inode{}, e
	}
	return b.r, api.OK
}

// place is where a block of the file lies; 0: it is a hole.
func (b *body) place(block int) int {
	at, _ := extent.Find(b.l, block)
	return at
}

// held is what the block of the disk at holds; noughts, if it is 0, a hole's.
func (b *body) held(at int) ([]byte, api.Errno) {
	if at == 0 {
		return make([]byte, api.BlockSize), api.OK
	}
	x, e := b.s.Read(at)
	if e != api.OK {
		return nil, api.EUCLEAN
	}
	return x, api.OK
}

// lay writes a block of the disk.
func (b *body) lay(at int, x []byte) api.Errno {
	if b.s.Write(at, x) != api.OK {
		return api.EUCLEAN
	}
	return api.OK
}

// layExtents lays the tree of the extents that the file has by now.
func (b *body) layExtents(goal int) api.Errno {
	root, more, e := extent.Write(b.s, b.r.Root, b.l, goal)
	if e != api.OK {
		return e
	}
	b.r.Root = root
	b.r.Blocks += more
	return api.OK
}
