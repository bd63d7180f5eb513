package file

import (
	"bytes"

	"hayrick/alloc"
	"hayrick/api"
	"hayrick/extent"
)

// truncate lets the file be so long.
func (b *body) truncate(size int) api.Errno {
	if size < 0 {
		return api.EINVAL
	}
	if size > api.MaxSize {
		return api.EFBIG
	}
	if size < b.r.Size {
		if e := b.cut(size); e != api.OK {
			return e
		}
	}
	b.r.Size = size
	return api.OK
}

// cut gives the blocks back that lie behind a size, and lets nothing of what was cut off lie in the last one.
func (b *body) cut(size int) api.Errno {
	left, gone, e := extent.Cut(b.l, (size+api.BlockSize-1)/api.BlockSize, api.MaxRow)
	if e != api.OK {
		return e
	}
	for _, x := range gone {
		if e := alloc.Free(b.s, x.Physical, x.Length); e != api.OK {
			return e
		}
		b.r.Blocks -= x.Length
	}
	b.l = left
	if e := b.layExtents(0); e != api.OK {
		return e
	}
	return b.blank(size)
}

// blank lets the block within which a size lies hold noughts from there on, if the file has it still.
func (b *body) blank(size int) api.Errno {
	at, from := b.place(size/api.BlockSize), size%api.BlockSize
	if at == 0 {
		return api.OK
	}
	x, e := b.held(at)
	if e != api.OK {
		return e
	}
	noughts := make([]byte, api.BlockSize-from)
	if bytes.Equal(x[from:], noughts) {
		return api.OK
	}
	copy(x[from:], noughts)
	return b.lay(at, x)
}
