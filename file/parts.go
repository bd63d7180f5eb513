package file

import (
	"iter"

	"hayrick/api"
)

// part is what one block of the file has of a row of the file's bytes: of the block from from to to-1, of the row from at on.
type part struct {
	block, from, to, at int
}

// parts are the blocks in which the n bytes from off on lie, in order.
func parts(off, n int) iter.Seq[part] {
	return func(yield func(part) bool) {
		for at := 0; at < n; {
			block, from := (off+at)/api.BlockSize, (off+at)%api.BlockSize
			to := min(api.BlockSize, from+n-at)
			if !yield(part{block, from, to, at}) {
				return
			}
			at += to - from
		}
	}
}

// read is n bytes from off on, all of them ahead of the end.
func (b *body) read(off, n int) ([]byte, api.Errno) {
	l := make([]byte, 0, n)
	for p := range parts(off, n) {
		x, e := b.held(b.place(p.block))
		if e != api.OK {
			return nil, e
		}
		l = append(l, x[p.from:p.to]...)
	}
	return l, api.OK
}
