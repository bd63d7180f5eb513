package alloc

import (
	"hayrick/api"
	"hayrick/bits"
	"hayrick/layout"
)

// takeInode takes one: its number.
func (l *ledger) takeInode(near int, dir bool) (int, api.Errno) {
	first := l.standsIn(near)
	if dir {
		first = l.roomiest()
	}
	for group := range l.round(first) {
		x, e := l.inodesOf(group)
		if e != api.OK {
			return 0, e
		}
		at, ok := x.firstFree()
		if !ok {
			continue
		}
		if e := l.turn(x, at, 1, true); e != api.OK {
			return 0, e
		}
		if e := l.count(group, api.Group{FreeInodes: -1, Dirs: dirs(dir)}); e != api.OK {
			return 0, e
		}
		return group*x.size + at + 1, api.OK
	}
	return 0, api.ENOSPC
}

// giveInode gives one back.
func (l *ledger) giveInode(ino int, dir bool) api.Errno {
	if !l.isInode(ino) {
		return api.EINVAL
	}
	group := l.standsIn(ino)
	x, e := l.inodesOf(group)
	if e != api.OK {
		return e
	}
	if e := l.turn(x, (ino-1)%x.size, 1, false); e != api.OK {
		return e
	}
	return l.count(group, api.Group{FreeInodes: 1, Dirs: -dirs(dir)})
}

func (l *ledger) isInode(ino int) bool {
	_, _, e := layout.InodeAt(l.super.Geometry, ino)
	return e == api.OK
}

// standsIn is the group in which an inode stands; the first one, if there is no such inode.
func (l *ledger) standsIn(ino int) int {
	if !l.isInode(ino) {
		return 0
	}
	return (ino - 1) / l.super.Geometry.Inodes
}

// roomiest is the group with the most free inodes, of several the first one.
func (l *ledger) roomiest() int {
	most := 0
	for group, x := range l.groups {
		if x.FreeInodes > l.groups[most].FreeInodes {
			most = group
		}
	}
	return most
}

func (l *ledger) inodesOf(group int) (bitmap, api.Errno) {
	g := l.super.Geometry
	return l.read(placeOf(g, group).inodes, g.Inodes)
}

// firstFree is the first bit that isn't taken.
func (x bitmap) firstFree() (int, bool) {
	for i := range x.size {
		if taken, e := bits.Test(x.data, i); e == api.OK && !taken {
			return i, true
		}
	}
	return 0, false
}

// dirs is how many directories an inode is.
func dirs(dir bool) int {
	if dir {
		return 1
	}
	return 0
}
