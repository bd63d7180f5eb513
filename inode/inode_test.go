package inode_test

import (
	"bytes"
	"encoding/binary"
	"encoding/hex"
	"hash/crc32"
	"math/rand"
	"testing"

	"hayrick/api"
	"hayrick/inode"
)

// noNumbers are such that no inode may have, some of which have the last bits of one that may.
var noNumbers = append([]int{0, 65536, 65537, 65536 + 7, 131071, 1<<32 + 7}, far...)

// P12.1: an inode by its bytes, and its sum.
func TestBytes(t *testing.T) {
	r := some(api.KindDir)
	want, _ := hex.DecodeString("02" + "01" + "ea01" + "1312" + "1514" + "1716" + "19fa0000" + "1d0a0000" +
		"2827262524232221" + "c8c8c9cacbcccdce" + "4847464544434241" + "52510000" + "54530000" + "56550000")
	want = append(want, r.Root...)
	b, e := inode.Pack(7, r)
	if e != api.OK || len(b) != 128 || !bytes.HasPrefix(b, want) {
		t.Fatalf("Pack: %x %d, want %x", b, e, want)
	}
	if !bytes.Equal(b[102:124], make([]byte, 22)) {
		t.Errorf("no noughts behind: %x", b)
	}
	if sum := binary.LittleEndian.Uint32(b[124:]); sum != crc32.Update(7, crc32.MakeTable(crc32.Castagnoli), b[:124]) {
		t.Errorf("sum: %08X", sum)
	}
}

// P12.1, P12.3: each inode that may be is packed as the chapter says, and Unpack of it is it.
func TestPlain(t *testing.T) {
	for _, r := range inodes() {
		kept := twin(r)
		if e := inode.Check(r); e != api.OK || !plainMayBe(r) {
			t.Fatalf("Check(%v): %d", r, e)
		}
		for _, ino := range numbers {
			b, e := inode.Pack(ino, r)
			if e != api.OK || !bytes.Equal(b, plainBytes(ino, kept)) {
				t.Fatalf("Pack(%d, %v): %x %d", ino, kept, b, e)
			}
			tells(t, ino, b, kept, api.OK)
		}
		if !same(r, kept) {
			t.Fatalf("%v was changed: %v", kept, r)
		}
	}
}

// P12.1: EINVAL of what may not be, ahead of all else; where its numbers go into their widths, bytes that say it are none.
func TestWrong(t *testing.T) {
	laid := 0
	for _, r := range wrongs() {
		if plainMayBe(r) {
			t.Fatalf("the draft: %v may be", r)
		}
		if e := inode.Check(r); e != api.EINVAL {
			t.Fatalf("Check(%v): %d", r, e)
		}
		for _, ino := range []int{1, 7, 65535, 0, 65536} {
			if b, e := inode.Pack(ino, r); b != nil || e != api.EINVAL {
				t.Fatalf("Pack(%d, %v): %x %d", ino, r, b, e)
			}
		}
		if goes(r) {
			tells(t, 7, plainBytes(7, r), api.Inode{}, api.EUCLEAN)
			laid++
		}
	}
	if laid < 100 {
		t.Errorf("only %d were laid", laid)
	}
}

// P12.1: EINVAL of numbers that no inode has, whatever the inode is, and whatever the bytes.
func TestNoNumber(t *testing.T) {
	for _, ino := range noNumbers {
		for kind := 1; kind <= 3; kind++ {
			r := some(kind)
			if b, e := inode.Pack(ino, r); b != nil || e != api.EINVAL {
				t.Errorf("Pack(%d, %v): %x %d", ino, r, b, e)
			}
			tells(t, ino, plainBytes(ino, r), api.Inode{}, api.EINVAL)
		}
		tells(t, ino, make([]byte, 128), api.Inode{}, api.EINVAL)
		tells(t, ino, bytes.Repeat([]byte{255}, 128), api.Inode{}, api.EINVAL)
		tells(t, ino, nil, api.Inode{}, api.EINVAL)
	}
}

// P12.1: ENOENT of a free inode, which is as many noughts as an inode has bytes, and of nothing else.
func TestFree(t *testing.T) {
	for _, ino := range numbers {
		tells(t, ino, make([]byte, 128), api.Inode{}, api.ENOENT)
		for _, n := range []int{0, 1, 4, 127, 129, 256} {
			tells(t, ino, make([]byte, n), api.Inode{}, api.EUCLEAN)
		}
		tells(t, ino, nil, api.Inode{}, api.EUCLEAN)
		tells(t, ino, seal(make([]byte, 128), ino), api.Inode{}, api.EUCLEAN)
	}
	for i := range 8 * 128 {
		b := make([]byte, 128)
		b[i/8] |= 1 << (i % 8)
		tells(t, 7, b, api.Inode{}, api.EUCLEAN)
	}
}

// P12.1, P12.3: no bit may be turned; and where it is and the bytes are sealed again, either they are none, or they are packed of what they say.
func TestTurned(t *testing.T) {
	for kind := 1; kind <= 3; kind++ {
		good := plainBytes(7, some(kind))
		others := 0
		for i := range 8 * 128 {
			b := bytes.Clone(good)
			b[i/8] ^= 1 << (i % 8)
			tells(t, 7, b, api.Inode{}, api.EUCLEAN)
			if i/8 >= 124 {
				continue
			}
			r, e := inode.Unpack(7, seal(b, 7))
			switch {
			case e == api.OK:
				others++
				if !plainMayBe(r) || !bytes.Equal(plainBytes(7, r), b) {
					t.Errorf("kind %d, bit %d: told as %v", kind, i, r)
				}
			case !same(r, api.Inode{}) || e != api.EUCLEAN:
				t.Errorf("kind %d, bit %d: %v %d", kind, i, r, e)
			}
			if at := i / 8; e == api.OK && at >= 102 {
				t.Errorf("kind %d, bit %d: noughts were told as %v", kind, i, r)
			}
			// All bits of a time and of the root may be others.
			if at := i / 8; e != api.OK && (at >= 18 && at < 42 || at >= 54 && at < 102) {
				t.Errorf("kind %d, bit %d: %d", kind, i, e)
			}
		}
		if others < 8*(24+48) {
			t.Errorf("kind %d: %d bits told another inode", kind, others)
		}
	}
}

// P12.1: bytes that Pack answers of nothing, though they are sealed.
func TestNoBytes(t *testing.T) {
	good := plainBytes(7, some(api.KindDir))
	for at, x := range map[int]byte{0: 0, 1: 2, 3: 2, 12: 2, 16: 1, 44: 1, 48: 1, 52: 1, 102: 1, 123: 128} {
		b := bytes.Clone(good)
		b[at] = x
		tells(t, 7, seal(b, 7), api.Inode{}, api.EUCLEAN)
	}
	for _, n := range []int{1, 4, 54, 58, 102, 106, 124, 127, 129, 132, 256} {
		b := make([]byte, n)
		copy(b, good)
		tells(t, 7, b, api.Inode{}, api.EUCLEAN)
		if n >= 4 {
			tells(t, 7, seal(b, 7), api.Inode{}, api.EUCLEAN)
		}
	}
	draw := rand.New(rand.NewSource(12))
	for range 2000 {
		b := make([]byte, 128)
		draw.Read(b)
		tells(t, 7, b, api.Inode{}, api.EUCLEAN)
		copy(b, good[:54])
		tells(t, 7, seal(b, 7), api.Inode{}, api.EUCLEAN) // its noughts are none
	}
}

// P12.3: bytes of one number are none of any other.
func TestOtherNumber(t *testing.T) {
	r := some(api.KindFile)
	for _, own := range []int{1, 7, 256, 65535} {
		b, e := inode.Pack(own, r)
		if e != api.OK {
			t.Fatalf("Pack(%d, %v): %d", own, r, e)
		}
		for ino := 1; ino <= 65535; ino++ {
			if ino == own {
				tells(t, ino, b, r, api.OK)
			} else if got, e := inode.Unpack(ino, b); !same(got, api.Inode{}) || e != api.EUCLEAN {
				t.Fatalf("Unpack(%d, bytes of %d): %v %d", ino, own, got, e)
			}
		}
	}
}

// P12.1, P12.3: drawn inodes, some of which may not be, by any of their numbers.
func TestDrawn(t *testing.T) {
	draw := rand.New(rand.NewSource(13))
	codes := map[api.Errno]int{}
	for range 20000 {
		r, ino := drawn(draw), 1+draw.Intn(65535)
		if draw.Intn(2) == 0 {
			f := fields[draw.Intn(len(fields))]
			*f.of(&r) = []int{mostOf(f, r.Kind), mostOf(f, r.Kind) + 1, -1, draw.Intn(70000)}[draw.Intn(4)]
		}
		if draw.Intn(8) == 0 {
			r.Kind, r.Indexed = draw.Intn(5), draw.Intn(2) == 0
		}
		want := api.OK
		if !plainMayBe(r) {
			want = api.EINVAL
		}
		codes[want]++
		b, e := inode.Pack(ino, r)
		if e != want || inode.Check(r) != want {
			t.Fatalf("Pack(%d, %v): %d, Check: %d, want %d", ino, r, e, inode.Check(r), want)
		}
		if e == api.OK {
			if !bytes.Equal(b, plainBytes(ino, r)) {
				t.Fatalf("Pack(%d, %v): %x", ino, r, b)
			}
			tells(t, ino, b, r, api.OK)
		} else if goes(r) {
			tells(t, ino, plainBytes(ino, r), api.Inode{}, api.EUCLEAN)
		}
	}
	if codes[api.OK] < 5000 || codes[api.EINVAL] < 2000 {
		t.Errorf("the draw asks too little: %v", codes)
	}
}

// P12.1, R3: what is handed in is not kept, and what is answered is new memory.
func TestShared(t *testing.T) {
	r := some(api.KindLink)
	want := plainBytes(7, r)
	first, _ := inode.Pack(7, r)
	second, _ := inode.Pack(7, r)
	got, _ := inode.Unpack(7, first)
	again, _ := inode.Unpack(7, first)
	for i := range r.Root {
		r.Root[i] = 0
	}
	if !bytes.Equal(first, want) {
		t.Errorf("Pack kept what it was given: %x", first)
	}
	for i := range first {
		first[i] = 9
	}
	if !bytes.Equal(second, want) || !same(got, some(api.KindLink)) {
		t.Errorf("%x %v", second, got)
	}
	for i := range got.Root {
		got.Root[i] = 8
	}
	_ = append(got.Root, 5)
	if !same(again, some(api.KindLink)) || !bytes.Equal(first, bytes.Repeat([]byte{9}, 128)) {
		t.Errorf("%v %x", again, first)
	}
}
