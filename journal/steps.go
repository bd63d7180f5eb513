package journal

import (
	"maps"
	"slices"

	"hayrick/api"
	"hayrick/log"
)

// begin finds out what comes next of the commit that is wanted: a checkpoint, a transaction, or its end.
func (j *Journal) begin() api.Errno {
	changed := j.s.Changed()
	revoked := j.revoked(changed)
	need := log.Need(len(changed), len(revoked))
	switch {
	case len(changed) == 0 && len(revoked) == 0:
		j.endPart()
	case need > j.ring:
		j.end()
		return api.ErrCredits
	case need > j.ring-j.used:
		j.left = j.checkpoint()
	default:
		return j.lay(revoked)
	}
	return api.OK
}

// next does the first thing that is left, if anything is. One that is refused stays left.
func (j *Journal) next() api.Errno {
	if len(j.left) == 0 {
		return api.OK
	}
	left := j.left
	// The thing itself may say what is left behind it.
	j.left = left[1:]
	e := left[0]()
	if e != api.OK {
		j.left = left
	}
	return e
}

// revoked are the blocks whose copies may not be laid home any more: they were given back, and nothing new stands in them. What is changed is told by rising numbers.
func (j *Journal) revoked(changed []int) []int {
	var l []int
	for _, n := range slices.Sorted(maps.Keys(j.live)) {
		if _, is := slices.BinarySearch(changed, n); !is && j.s.Held(n) {
			l = append(l, n)
		}
	}
	return l
}

// lay lets a transaction of all that is changed be left to be written. What it makes of the journal is put together now, but comes with its last flush alone: till then a crash may undo it all.
func (j *Journal) lay(revoked []int) api.Errno {
	writes := j.s.Commit()
	blocks, e := log.Lay(j.seq, writes, revoked)
	if e != api.OK {
		return e
	}
	laid := func() {
		j.seq++
		j.used += len(blocks)
		for _, w := range writes {
			j.live[w.Block] = struct{}{}
		}
	}
	var row []func() api.Errno
	for i, b := range blocks {
		row = append(row, j.write(j.tail+j.used+i, b))
	}
	last := len(row) - 1
	j.left = slices.Insert(row, last, j.flush())
	j.left = append(j.left, j.flush(laid, j.endPart))
	return api.OK
}

// checkpoint is what brings all home, and what is done with the last flush of it.
func (j *Journal) checkpoint(behind ...func()) []func() api.Errno {
	var row []func() api.Errno
	for _, w := range j.s.Waiting() {
		row = append(row, j.home(w.Block))
	}
	return append(row, j.flush(), j.writeHead, j.flush(append([]func(){j.empty}, behind...)...))
}

// endPart ends the commit itself, behind which a checkpoint may be left.
func (j *Journal) endPart() {
	j.commits++
	j.s.Release()
	if j.clean && (j.used > 0 || len(j.s.Waiting()) > 0) {
		j.left = j.checkpoint(j.end)
		return
	}
	j.end()
}

// end lets no commit be wanted any more.
func (j *Journal) end() { j.wanted, j.clean = false, false }

// empty lets nothing be used, and nothing be live.
func (j *Journal) empty() {
	j.tail, j.used = j.behindUsed(), 0
	clear(j.live)
}

// behindUsed is the place behind the used ones.
func (j *Journal) behindUsed() int { return (j.tail + j.used) % j.ring }

func (j *Journal) writeHead() api.Errno {
	b, e := log.Pack(log.Record{Kind: log.Head, Seq: j.seq, Start: j.behindUsed()})
	if e != api.OK {
		return e
	}
	return j.d.Write(headAt, b)
}

// write lets a block stand at a place of the ring, which may be told beyond its end.
func (j *Journal) write(place int, b []byte) func() api.Errno {
	return func() api.Errno { return j.d.Write(ringAt+place%j.ring, b) }
}

// home brings a block home.
func (j *Journal) home(n int) func() api.Errno {
	return func() api.Errno {
		e := j.s.Home(n)
		if e == api.EINVAL {
			// Somebody else brought it home: a Step that did nothing more would be one without a step of the disk.
			return j.next()
		}
		return e
	}
}

// flush is a flush, and what comes with it.
func (j *Journal) flush(comes ...func()) func() api.Errno {
	return func() api.Errno {
		j.d.Flush()
		for _, come := range comes {
			come()
		}
		return api.OK
	}
}
