package inode

import (
	"bytes"
	"math"

	"hayrick/api"
	"hayrick/wire"
)

const (
	mostNumber = math.MaxUint16 // of an inode; what else names, counts or owns has the same limit
	mostPerm   = 0o777
	rootAt     = 54 // behind all numbers
)

// isNumber: may an inode have it as its number?
func isNumber(ino int) bool { return within(1, mostNumber, ino) }

func mayBe(r api.Inode) bool {
	return suitsKind(r) &&
		within(0, mostPerm, r.Perm) &&
		within(0, mostNumber, r.Uid, r.Gid, r.Links, r.Next, r.Parent, r.Xattr) &&
		within(0, api.MaxSize, r.Size) &&
		within(0, api.MaxBlocks, r.Blocks) &&
		len(r.Root) == api.RootSize
}

// suitsKind: is there such a kind, and is nothing said that one of it may not say?
func suitsKind(r api.Inode) bool {
	switch r.Kind {
	case api.KindFile:
		return r.Parent == 0 && !r.Indexed
	case api.KindDir:
		return true
	case api.KindLink:
		return r.Parent == 0 && !r.Indexed && r.Size <= api.MaxPath
	}
	return false
}

// within: is none of some numbers below the least one or above the most?
func within(least, most int, numbers ...int) bool {
	for _, x := range numbers {
		if x < least || x > most {
			return false
		}
	}
	return true
}

// widths are those of an inode's numbers, in order: Kind, Indexed, Perm, Uid, Gid, Links; Size, Blocks; Atime, Mtime, Ctime; Next, Parent, Xattr.
func widths() []int {
	return []int{
		1, 1, 2, 2, 2, 2,
		4, 4,
		8, 8, 8,
		4, 4, 4,
	}
}

// numbers are those of an inode that may be, in the order of widths.
func numbers(r api.Inode) []uint64 {
	indexed := uint64(0)
	if r.Indexed {
		indexed = 1
	}
	return []uint64{
		uint64(r.Kind), indexed, uint64(r.Perm), uint64(r.Uid), uint64(r.Gid), uint64(r.Links),
		uint64(r.Size), uint64(r.Blocks),
		uint64(r.Atime), uint64(r.Mtime), uint64(r.Ctime),
		uint64(r.Next), uint64(r.Parent), uint64(r.Xattr),
	}
}

// told is the inode that has these numbers, and that root.
func told(l []uint64, root []byte) api.Inode {
	return api.Inode{
		Kind: int(l[0]), Indexed: l[1] == 1, Perm: int(l[2]), Uid: int(l[3]), Gid: int(l[4]), Links: int(l[5]),
		Size: int(l[6]), Blocks: int(l[7]),
		Atime: int64(l[8]), Mtime: int64(l[9]), Ctime: int64(l[10]),
		Next: int(l[11]), Parent: int(l[12]), Xattr: int(l[13]),
		Root: root,
	}
}

// record is the bytes of an inode that may be.
func record(ino int, r api.Inode) ([]byte, api.Errno) {
	b, e := wire.Pack(numbers(r), widths(), api.InodeSize)
	if e != api.OK {
		return nil, e
	}
	copy(b[rootAt:], r.Root)
	if e := wire.Seal(b, uint32(ino)); e != api.OK {
		return nil, e
	}
	return b, api.OK
}

// read is the inode that bytes tell, be they whole or not; nothing and false, if they can't tell any.
func read(b []byte) (api.Inode, bool) {
	if len(b) != api.InodeSize {
		return api.Inode{}, false
	}
	l, e := wire.Unpack(b[:rootAt], widths())
	if e != api.OK {
		return api.Inode{}, false
	}
	return told(l, bytes.Clone(b[rootAt:rootAt+api.RootSize])), true
}

// free is the bytes of a free inode.
func free() []byte { return make([]byte, api.InodeSize) }
