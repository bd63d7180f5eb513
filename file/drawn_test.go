package file_test

import (
	"math/rand"
	"slices"
	"testing"

	"hayrick/alloc"
	"hayrick/api"
	"hayrick/extent"
	"hayrick/file"
	"hayrick/store"
)

// one is a file of several.
type one struct {
	r     api.Inode
	bytes []byte
}

// whole: is each file its bytes, has it as many blocks as it says, and are all others free, but for those of others?
func whole(r *rig, files []one, free, others int) {
	r.Helper()
	owned := map[int]bool{}
	for i, x := range files {
		l, nodes, e := extent.Read(r.s, x.r.Root)
		places := rowOf(l)
		if e != api.OK || x.r.Blocks != places.blocks()+len(nodes) || x.r.Size != len(x.bytes) {
			r.Fatalf("file %d: %v, %d bytes, %d nodes: %d", i, x.r, len(x.bytes), len(nodes), e)
		}
		for _, at := range slices.Concat(places[:], nodes) {
			if at != 0 && owned[at] {
				r.Fatalf("block %d has two owners", at)
			}
			owned[at] = true
		}
		delete(owned, 0)
	}
	if left, _, e := alloc.Left(r.s); e != api.OK || left != free-others-len(owned) {
		r.Fatalf("%d blocks are free of %d, %d are others', %d the files': %d", left, free, others, len(owned), e)
	}
}

// P14.4: any writes and truncates of several files, by turns, with commits in between: each is its plain bytes, and no block is lost.
func TestDrawn(t *testing.T) {
	for i, g := range []api.Geometry{example, example, wide} {
		r := rigged(t, g)
		draw := rand.New(rand.NewSource(int64(141 + i)))
		free, _, _ := alloc.Left(r.s)
		others := 0
		if i > 0 {
			r.sparse()
			left, _, _ := alloc.Left(r.s)
			others = free - left
		}
		files := make([]one, 4)
		for i := range files {
			files[i].r = empty()
		}
		codes, short, steps := map[api.Errno]int{}, 0, 500
		if g == wide {
			steps = 120
		}
		for range steps {
			x := &files[draw.Intn(len(files))]
			r.r, r.bytes = x.r, x.bytes
			step(r, draw, codes, &short)
			x.r, x.bytes = r.r, r.bytes
			switch draw.Intn(12) {
			case 0:
				r.both(home)
			case 1:
				r.both(func(s *store.Store) { s.Commit() })
			case 2:
				r.both((*store.Store).Release)
			}
			whole(r, files, free, others)
		}
		if codes[api.OK] < steps/2 || g == example && (min(codes[api.ENOSPC], short) < 10 || min(codes[api.EINVAL], codes[api.EFBIG]) < 1) {
			t.Errorf("the draw asks too little: %v, %d written in part", codes, short)
		}
		for i := range files {
			r.r, r.bytes = files[i].r, files[i].bytes
			r.truncate(0)
			files[i] = one{r.r, r.bytes}
		}
		whole(r, files, free, others)
		if left, _, _ := alloc.Left(r.s); left != free-others {
			t.Errorf("%d blocks are free of %d", left, free-others)
		}
	}
}

// step draws a write or a truncate, and asks for it.
func step(r *rig, draw *rand.Rand, codes map[api.Errno]int, short *int) {
	r.Helper()
	size := len(r.bytes)
	off := []int{draw.Intn(4000), draw.Intn(65536), size, max(0, size-draw.Intn(700)), size + draw.Intn(700), draw.Intn(256) * 256}[draw.Intn(6)]
	if draw.Intn(40) == 0 {
		off = slices.Concat(below, beyond, []int{65536, 65537})[draw.Intn(len(below)+len(beyond)+2)]
	}
	if draw.Intn(7) == 0 {
		codes[r.truncate(off)]++
		return
	}
	n := []int{draw.Intn(2500), draw.Intn(300), 256, 2048}[draw.Intn(4)]
	m, e := r.write(off, count(n, draw.Intn(255)), draw.Intn(r.s.Blocks()))
	codes[e]++
	if e == api.OK && m < min(n, 2048, 65536-off) {
		*short++
	}
}

// P1, P14.1 to P14.3: whatever stands in a root and on a disk, what comes is what the words say, and what is refused changes nothing.
func TestDrawnBroken(t *testing.T) {
	draw := rand.New(rand.NewSource(77))
	codes := map[api.Errno]int{}
	for range 400 {
		r := rigged(t, example)
		var places row
		for k := range places {
			switch draw.Intn(20) {
			case 0:
				places[k] = 1 + draw.Intn(330)
			case 1, 2, 3:
				if k > 0 && places[k-1] > 0 {
					places[k] = places[k-1] + 1
				}
			}
		}
		if draw.Intn(2) == 0 {
			clear(places[5+draw.Intn(20):])
		}
		r.takes(110, 60)
		r.r = of(t, draw.Intn(65537), places.list(), r.s, r.twin)
		if draw.Intn(10) == 0 {
			r.r.Root[draw.Intn(48)] ^= 1 << draw.Intn(8)
		}
		if draw.Intn(10) == 0 {
			r.r.Perm = 512
		}
		for range 4 {
			codes[anything(r, draw)]++
		}
	}
	if codes[api.OK] < 100 || codes[api.EUCLEAN] < 100 || codes[api.EINVAL] < 100 || codes[api.EFBIG] < 10 {
		t.Errorf("the draw asks too little: %v", codes)
	}
}

// anything draws a call, and asks for it of both stores; the file is what it was.
func anything(r *rig, draw *rand.Rand) api.Errno {
	r.Helper()
	number := draw.Intn(8000)
	if draw.Intn(8) == 0 {
		number = slices.Concat(below, beyond)[draw.Intn(len(below)+len(beyond))]
	}
	mark := r.s.Mark()
	var e api.Errno
	switch draw.Intn(3) {
	case 0:
		var want []byte
		n := draw.Intn(600)
		want, e = plainRead(r.twin, r.r, number, n)
		reads(r.T, r.s, r.r, number, n, want, e)
	case 1:
		var want api.Inode
		var m int
		data, goal := count(draw.Intn(2100), draw.Intn(255)), draw.Intn(320)-10
		want, m, e = plainWrite(r.twin, r.r, number, data, goal)
		writes(r.T, r.s, r.r, number, data, goal, want, m, e)
	default:
		var want api.Inode
		want, e = plainTruncate(r.twin, r.r, number)
		truncates(r.T, r.s, r.r, number, want, e)
	}
	if r.s.Mark() != r.twin.Mark() || e != api.OK && r.s.Mark() != mark {
		r.Fatalf("Mark %d, want %d", r.s.Mark(), r.twin.Mark())
	}
	if draw.Intn(2) == 0 {
		r.both(func(s *store.Store) { s.Back(mark) })
	}
	sameBlocks(r)
	return e
}

// sameBlocks: do both stores hold the same?
func sameBlocks(r *rig) {
	r.Helper()
	for n := range r.s.Blocks() {
		a, _ := r.s.Read(n)
		b, _ := r.twin.Read(n)
		if !slices.Equal(a, b) || r.s.Held(n) != r.twin.Held(n) {
			r.Fatalf("block %d: %x, want %x", n, a, b)
		}
	}
}

// P14.4: of a file without holes no byte is lost where it is written piece by piece in any order.
func TestPieces(t *testing.T) {
	r := rigged(t, wide)
	draw := rand.New(rand.NewSource(5))
	all := count(65536, 9)
	for _, i := range draw.Perm(64) {
		for off := i * 1024; off < i*1024+1024; {
			m, e := r.write(off, all[off:i*1024+1024], 700)
			if e != api.OK {
				t.Fatal(off, e)
			}
			off += m
		}
	}
	if b, e := file.Read(r.s, r.r, 0, 65536); e != api.OK || !slices.Equal(b, all) {
		t.Error("the file is not what was written", e)
	}
	if places, nodes := r.row(); r.r.Blocks != 256+nodes || places.blocks() != 256 {
		t.Error(r.r)
	}
}
