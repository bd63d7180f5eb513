package alloc

import (
	"hayrick/api"
	"hayrick/layout"
)

const (
	superAt  = 0
	groupsAt = 1
)

// counts are what a disk's first two blocks say.
type counts struct {
	super  api.Super
	groups []api.Group
}

// add counts more of a group, or less, and so in the sums of all groups.
func (c *counts) add(group int, more api.Group) {
	x := &c.groups[group]
	x.FreeBlocks += more.FreeBlocks
	x.FreeInodes += more.FreeInodes
	x.Dirs += more.Dirs
	c.super.FreeBlocks += more.FreeBlocks
	c.super.FreeInodes += more.FreeInodes
}

// pack is the two blocks, in the order in which they are written. What layout refuses is a count that may not be.
func (c *counts) pack() ([]api.Write, api.Errno) {
	groups, e := layout.PackGroups(c.groups)
	if e != api.OK {
		return nil, api.EUCLEAN
	}
	super, e := layout.PackSuper(c.super)
	if e != api.OK {
		return nil, api.EUCLEAN
	}
	return []api.Write{{Block: groupsAt, Data: groups}, {Block: superAt, Data: super}}, api.OK
}
