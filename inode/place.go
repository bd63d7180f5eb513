package inode

import (
	"hayrick/alloc"
	"hayrick/api"
	"hayrick/store"
)

// place is where an inode stands.
type place struct {
	block int
	at    int    // the byte of the block at which it begins
	data  []byte // what the block holds
}

// seek is an inode's place.
func seek(s *store.Store, ino int) (place, api.Errno) {
	block, at, e := alloc.Place(s, ino)
	if e != api.OK {
		return place{}, e
	}
	data, e := s.Read(block)
	if e != api.OK {
		return place{}, e
	}
	return place{block, at, data}, api.OK
}

// bytes are the inode's own: what is written into them stands in the block's data.
func (p place) bytes() []byte { return p.data[p.at : p.at+api.InodeSize] }

// lay lets an inode's bytes be these; those of the other one of its block stay.
func lay(s *store.Store, ino int, b []byte) api.Errno {
	x, e := seek(s, ino)
	if e != api.OK {
		return e
	}
	copy(x.bytes(), b)
	return s.Write(x.block, x.data)
}
