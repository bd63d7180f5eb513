package inode_test

import (
	"bytes"
	"encoding/binary"
	"hash/crc32"
	"math"
	"math/rand"
	"reflect"
	"testing"

	"hayrick/api"
	"hayrick/inode"
)

// far are numbers that no field may have, and such that look near where bits are lost.
var far = []int{math.MinInt, math.MinInt + 1, math.MinInt32, -1 << 32, -1<<32 + 1, -65535, -2, -1, 1 << 31, 1<<32 - 1, 1 << 32, 1<<32 + 1, 1<<32 + 300, 1 << 48, math.MaxInt - 1, math.MaxInt}

// numbers are such that inodes may have, at the edges and between.
var numbers = []int{1, 2, 3, 7, 16, 255, 256, 4660, 32767, 32768, 65534, 65535}

// field is a number of an inode: where it stands in the bytes and in how many of them, what it may be at most, but of a link, and how it is told.
type field struct {
	name            string
	at, width, most int
	of              func(r *api.Inode) *int
}

// fields are all of them but Kind, which stands at 0.
var fields = []field{
	{"Perm", 2, 2, 511, func(r *api.Inode) *int { return &r.Perm }},
	{"Uid", 4, 2, 65535, func(r *api.Inode) *int { return &r.Uid }},
	{"Gid", 6, 2, 65535, func(r *api.Inode) *int { return &r.Gid }},
	{"Links", 8, 2, 65535, func(r *api.Inode) *int { return &r.Links }},
	{"Size", 10, 4, 65536, func(r *api.Inode) *int { return &r.Size }},
	{"Blocks", 14, 4, 4096, func(r *api.Inode) *int { return &r.Blocks }},
	{"Next", 42, 4, 65535, func(r *api.Inode) *int { return &r.Next }},
	{"Parent", 46, 4, 65535, func(r *api.Inode) *int { return &r.Parent }},
	{"Xattr", 50, 4, 65535, func(r *api.Inode) *int { return &r.Xattr }},
}

// mostOf is the most that a field may be in an inode of a kind.
func mostOf(f field, kind int) int {
	if f.name == "Size" && kind == api.KindLink {
		return 512
	}
	if f.name == "Parent" && kind != api.KindDir {
		return 0
	}
	return f.most
}

// times are where they stand, and how they are told.
var times = []struct {
	at int
	of func(r *api.Inode) *int64
}{
	{18, func(r *api.Inode) *int64 { return &r.Atime }},
	{26, func(r *api.Inode) *int64 { return &r.Mtime }},
	{34, func(r *api.Inode) *int64 { return &r.Ctime }},
}

var stamps = []int64{math.MinInt64, math.MinInt64 + 1, -1 << 32, -1, 0, 1, 1 << 32, 1500000000, 0x0102030405060708, math.MaxInt64 - 1, math.MaxInt64}

// plainMayBe is the chapter's word, field by field.
func plainMayBe(r api.Inode) bool {
	for _, f := range fields {
		if x := *f.of(&r); x < 0 || x > mostOf(f, r.Kind) {
			return false
		}
	}
	return 1 <= r.Kind && r.Kind <= 3 && (r.Kind == 2 || !r.Indexed) && len(r.Root) == 48
}

// seal writes the sum of all ahead into the last four bytes, by another way than package wire's.
func seal(b []byte, ino int) []byte {
	at := len(b) - 4
	binary.LittleEndian.PutUint32(b[at:], crc32.Update(uint32(ino), crc32.MakeTable(crc32.Castagnoli), b[:at]))
	return b
}

// plainBytes are the chapter's, of an inode whose numbers go into their widths, whether it may be or not.
func plainBytes(ino int, r api.Inode) []byte {
	b := make([]byte, 128)
	b[0] = byte(r.Kind)
	if r.Indexed {
		b[1] = 1
	}
	for _, f := range fields {
		if f.width == 2 {
			binary.LittleEndian.PutUint16(b[f.at:], uint16(*f.of(&r)))
		} else {
			binary.LittleEndian.PutUint32(b[f.at:], uint32(*f.of(&r)))
		}
	}
	for _, x := range times {
		binary.LittleEndian.PutUint64(b[x.at:], uint64(*x.of(&r)))
	}
	copy(b[54:102], r.Root)
	return seal(b, ino)
}

// goes: do an inode's numbers go into their widths?
func goes(r api.Inode) bool {
	for _, f := range fields {
		if x := *f.of(&r); x < 0 || x >= 1<<(8*f.width) {
			return false
		}
	}
	return 0 <= r.Kind && r.Kind <= 255 && len(r.Root) == 48
}

// root is 48 bytes, none of them 0, no two next to one another the same.
func root(from int) []byte {
	b := make([]byte, 48)
	for i := range b {
		b[i] = byte((from+37*i)%255 + 1)
	}
	return b
}

// some is an inode of a kind that may be, whose numbers are told from one another.
func some(kind int) api.Inode {
	r := api.Inode{
		Kind: kind, Perm: 0o752, Uid: 0x1213, Gid: 0x1415, Links: 0x1617, Size: 0x01B1, Blocks: 0x0A1D,
		Atime: 0x2122232425262728, Mtime: -0x3132333435363738, Ctime: 0x4142434445464748,
		Next: 0x5152, Xattr: 0x5556, Root: root(kind),
	}
	if kind == api.KindDir {
		r.Parent, r.Indexed, r.Size = 0x5354, true, 0xFA19
	}
	return r
}

// least is an inode of a kind that says as little as one may.
func least(kind int) api.Inode { return api.Inode{Kind: kind, Root: make([]byte, 48)} }

// inodes are such that may be, at the edges of all that they say.
func inodes() []api.Inode {
	var out []api.Inode
	for kind := 1; kind <= 3; kind++ {
		for _, r := range []api.Inode{least(kind), some(kind)} {
			out = append(out, r)
			for _, f := range fields {
				for _, x := range []int{0, 1, 255, 256, 511, 512, 4096, 32768, 65535, mostOf(f, kind)} {
					w := r
					*f.of(&w) = min(x, mostOf(f, kind))
					out = append(out, w)
				}
			}
			for _, x := range times {
				for _, ns := range stamps {
					w := r
					*x.of(&w) = ns
					out = append(out, w)
				}
			}
			for i := range 48 {
				w := r
				w.Root = bytes.Clone(r.Root)
				w.Root[i] = 0xC3
				out = append(out, w)
			}
		}
		most := least(kind)
		for _, f := range fields {
			*f.of(&most) = mostOf(f, kind)
		}
		most.Root = bytes.Repeat([]byte{255}, 48)
		most.Indexed = kind == api.KindDir
		out = append(out, most)
	}
	plain := some(api.KindDir)
	plain.Indexed = false
	return append(out, plain)
}

// wrongs are inodes that may not be, by one thing each.
func wrongs() []api.Inode {
	var out []api.Inode
	for kind := 1; kind <= 3; kind++ {
		for _, r := range []api.Inode{least(kind), some(kind)} {
			for _, f := range fields {
				for _, x := range append([]int{mostOf(f, kind) + 1, mostOf(f, kind) + 2, 131072}, far...) {
					w := r
					*f.of(&w) = x
					out = append(out, w)
				}
			}
			for _, x := range append([]int{0, 4, 5, 128, 129, 255, 256, 257, 258, 259, 65537}, far...) {
				w := r
				w.Kind = x
				out = append(out, w)
			}
			for _, n := range []int{0, 1, 47, 49, 96, 102, 128, 1000} {
				w := r
				w.Root = bytes.Repeat([]byte{5}, n)
				out = append(out, w)
			}
			w := r
			w.Root = nil
			out = append(out, w)
			if kind != api.KindDir {
				w, v := r, r
				w.Indexed, v.Parent = true, 1
				out = append(out, w, v)
			}
		}
	}
	return append(out, api.Inode{})
}

// drawn is an inode of any kind that may be.
func drawn(draw *rand.Rand) api.Inode {
	r := least(1 + draw.Intn(3))
	for _, f := range fields {
		*f.of(&r) = draw.Intn(mostOf(f, r.Kind)+1) >> draw.Intn(12)
	}
	for _, x := range times {
		*x.of(&r) = int64(draw.Uint64()) >> draw.Intn(64)
	}
	r.Indexed = r.Kind == api.KindDir && draw.Intn(2) == 0
	draw.Read(r.Root)
	return r
}

// same: are two inodes the same in all that they say?
func same(a, b api.Inode) bool { return reflect.DeepEqual(a, b) }

// twin is the same inode in other memory.
func twin(r api.Inode) api.Inode {
	r.Root = bytes.Clone(r.Root)
	return r
}

// tells: does Unpack answer just this, and leave what it was given as it was?
func tells(t *testing.T, ino int, b []byte, want api.Inode, f api.Errno) {
	t.Helper()
	kept := bytes.Clone(b)
	if r, e := inode.Unpack(ino, b); !same(r, want) || e != f {
		t.Fatalf("Unpack(%d, %x): %v %d, want %v %d", ino, b, r, e, want, f)
	}
	if !bytes.Equal(b, kept) {
		t.Fatalf("Unpack(%d, ..) changed what it was given", ino)
	}
}
