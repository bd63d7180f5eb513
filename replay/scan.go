package replay

import (
	"iter"

	"hayrick/api"
	"hayrick/disk"
	"hayrick/log"
	"hayrick/wire"
)

// scan goes through a journal's ring, transaction by transaction.
type scan struct {
	d      *disk.Disk
	ring   int    // how many places there are
	unread int    // how many of them are not read yet
	seq    int    // of the transaction that comes next
	at     int    // its place
	sum    uint32 // of all blocks of the transaction that were read
}

// transaction is a whole one.
type transaction struct {
	seq     int
	copies  []api.Write // as they were ahead of their escape
	revoked []int
}

// absent is what is given up where a record is not there: a type that nothing outside this package has, so that no other panic is taken for one.
type absent struct{}

// must gives up, unless it is there.
func must(there bool) {
	if !there {
		panic(absent{})
	}
}

// isThere: is what was caught nothing, for nothing was given up?
func isThere(caught any) bool {
	if caught == nil {
		return true
	}
	if _, ok := caught.(absent); !ok {
		// It is a slip of this package's own: an answer would hide it.
		panic(caught)
	}
	return false
}

// laidHome are the copies of all transactions that are there, but for those that a later one revokes, and how many transactions these are.
func (s *scan) laidHome() (int, []api.Write) {
	var all []transaction
	revokedBy := map[int]int{} // the last one that revokes a block
	for t := range s.transactions() {
		all = append(all, t)
		for _, n := range t.revoked {
			revokedBy[n] = t.seq
		}
	}
	var copies []api.Write
	for _, t := range all {
		for _, w := range t.copies {
			if revokedBy[w.Block] <= t.seq {
				copies = append(copies, w)
			}
		}
	}
	return len(all), copies
}

// transactions tells all that are there, in order. Behind them the scan stands at the first one that is not.
func (s *scan) transactions() iter.Seq[transaction] {
	return func(yield func(transaction) bool) {
		for {
			t, ok := s.next()
			if !ok || !yield(t) {
				return
			}
		}
	}
}

// next is the next transaction, if it is there; else the scan stays where it is.
func (s *scan) next() (t transaction, ok bool) {
	was := *s
	defer func() {
		if ok = isThere(recover()); !ok {
			*s = was
		}
	}()
	return s.read(), true
}

// read is the next transaction, which is given up where a record of it is not there.
func (s *scan) read() transaction {
	t := transaction{seq: s.seq}
	s.sum = uint32(s.seq)
	for {
		ahead := s.sum
		r := s.record()
		switch r.Kind {
		case log.Descriptor:
			for _, x := range r.Entries {
				t.copies = append(t.copies, api.Write{Block: x.Block, Data: log.Unescape(s.block(), x.Escaped)})
			}
		case log.Revoke:
			for _, x := range r.Entries {
				t.revoked = append(t.revoked, x.Block)
			}
		case log.Commit:
			must(r.Sum == ahead)
			s.seq++
			return t
		default:
			must(false)
		}
	}
}

// record is what the next place says, in the name of the transaction that is read.
func (s *scan) record() log.Record {
	r, e := log.Unpack(s.block())
	must(e == api.OK && r.Seq == s.seq)
	return r
}

// block is what stands at the next place: it is in the sum then.
func (s *scan) block() []byte {
	must(s.unread > 0)
	b, e := s.d.Read(ringAt + s.at)
	must(e == api.OK)
	s.at = (s.at + 1) % s.ring
	s.unread--
	s.sum = wire.Crc(s.sum, b)
	return b
}
