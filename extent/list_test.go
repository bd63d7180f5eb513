package extent_test

import (
	"math"
	"math/rand"
	"slices"
	"testing"

	"hayrick/api"
	"hayrick/extent"
)

// of is a list of extents, told by three numbers each.
func of(numbers ...int) []api.Extent {
	var l []api.Extent
	for x := range slices.Chunk(numbers, 3) {
		l = append(l, api.Extent{Logical: x[0], Length: x[1], Physical: x[2]})
	}
	return l
}

// adds: does Add answer just this, and leave what it was given?
func adds(t *testing.T, l []api.Extent, x api.Extent, want []api.Extent, f api.Errno) {
	t.Helper()
	was := slices.Clone(l)
	if got, e := extent.Add(l, x); !slices.Equal(got, want) || e != f {
		t.Fatalf("Add(%v, %v): %v %d, want %v %d", l, x, got, e, want, f)
	}
	if !slices.Equal(l, was) {
		t.Fatalf("Add changed %v: %v", was, l)
	}
}

// cuts: does Cut answer just this, and leave what it was given?
func cuts(t *testing.T, l []api.Extent, from, to int, outside, within []api.Extent, f api.Errno) {
	t.Helper()
	was := slices.Clone(l)
	if a, b, e := extent.Cut(l, from, to); !slices.Equal(a, outside) || !slices.Equal(b, within) || e != f {
		t.Fatalf("Cut(%v, %d, %d): %v %v %d, want %v %v %d", l, from, to, a, b, e, outside, within, f)
	}
	if !slices.Equal(l, was) {
		t.Fatalf("Cut changed %v: %v", was, l)
	}
}

// finds: does Find answer just this?
func finds(t *testing.T, l []api.Extent, logical, at, n int) {
	t.Helper()
	if a, b := extent.Find(l, logical); a != at || b != n {
		t.Fatalf("Find(%v, %d): %d %d, want %d %d", l, logical, a, b, at, n)
	}
}

// P13.1, P13.2: the chapter's own examples.
func TestListExamples(t *testing.T) {
	adds(t, of(0, 2, 100), api.Extent{Logical: 2, Length: 3, Physical: 102}, of(0, 5, 100), api.OK)
	adds(t, of(0, 2, 100), api.Extent{Logical: 1, Length: 1, Physical: 50}, nil, api.EEXIST)
	cuts(t, of(0, 5, 100), 1, 3, of(0, 1, 100, 3, 2, 103), of(1, 2, 101), api.OK)
	l := of(0, 1, 100, 3, 2, 103)
	finds(t, l, 1, 0, 2)
	finds(t, l, 3, 103, 2)
	finds(t, l, 5, 0, 251)
}

// P13.1: a list is as the chapter says, at the edges of all that it may have.
func TestCheck(t *testing.T) {
	for _, l := range [][]api.Extent{
		nil, {}, of(0, 256, 1), of(0, 256, 3840), of(255, 1, 4095), of(0, 1, 1, 1, 1, 1), of(0, 1, 7, 1, 1, 6), of(0, 1, 7, 2, 1, 8), of(0, 2, 7, 2, 2, 8), of(0, 2, 7, 3, 2, 9),
	} {
		if e := extent.Check(l); e != api.OK || !plainMayBe(l) {
			t.Errorf("Check(%v): %d", l, e)
		}
	}
	for _, n := range sizes {
		if e := extent.Check(fixed(n, 0)); e != api.OK {
			t.Errorf("Check of %d extents: %d", n, e)
		}
	}
	for _, l := range wrongs() {
		if e := extent.Check(l); e != api.EINVAL || plainMayBe(l) {
			t.Errorf("Check(%v): %d", l, e)
		}
	}
	for _, l := range [][]api.Extent{
		of(0, 257, 1), of(0, 256, 3841), of(1, 256, 1), of(256, 1, 1), of(255, 1, 4096), of(0, 1, 0), of(0, 0, 1), of(-1, 1, 1), of(0, 1, 7, 1, 1, 8), of(0, 2, 7, 1, 1, 8), of(1, 1, 7, 0, 1, 9), of(0, 1, 7, 0, 1, 9),
	} {
		if e := extent.Check(l); e != api.EINVAL {
			t.Errorf("Check(%v): %d", l, e)
		}
	}
}

// P13.1 to P13.2: a list that may not be is refused, or has nothing, whatever else is asked; and so is an extent, though the list has its blocks.
func TestWrongList(t *testing.T) {
	for _, l := range wrongs() {
		for _, n := range append([]int{0, 1, 2, 5, 9, 255, 256}, far...) {
			finds(t, l, n, 0, 0)
			cuts(t, l, n, n, nil, nil, api.EINVAL)
			cuts(t, l, 0, n, nil, nil, api.EINVAL)
			adds(t, l, api.Extent{Logical: n, Length: 1, Physical: 1}, nil, api.EINVAL)
		}
		adds(t, l, api.Extent{Logical: 20, Length: 1, Physical: 1}, nil, api.EINVAL)
		adds(t, l, api.Extent{Logical: 3, Length: 1, Physical: 1}, nil, api.EINVAL)
		for _, x := range l {
			if !aloneMayBe(x) {
				adds(t, nil, x, nil, api.EINVAL)
				adds(t, of(0, 256, 1), x, nil, api.EINVAL)
			}
		}
	}
	for _, n := range far {
		adds(t, nil, api.Extent{Logical: n, Length: n, Physical: n}, nil, api.EINVAL)
		adds(t, of(0, 256, 1), api.Extent{Logical: n, Length: n, Physical: n}, nil, api.EINVAL)
	}
}

// P13.1: each block of drawn files, and numbers that none has.
func TestFind(t *testing.T) {
	draw := rand.New(rand.NewSource(1))
	for range 300 {
		r := drawnRow(draw)
		l := r.list()
		for logical := -3; logical < 260; logical++ {
			at, n := plainFind(r, logical)
			finds(t, l, logical, at, n)
		}
		for _, logical := range far {
			finds(t, l, logical, 0, 0)
		}
	}
	finds(t, nil, 0, 0, 256)
	finds(t, nil, 255, 0, 1)
}

// P13.2, P13.5: what is added is there, one with what it continues, and all else as it was.
func TestAdd(t *testing.T) {
	draw := rand.New(rand.NewSource(2))
	codes := map[api.Errno]int{}
	for range 20000 {
		r := drawnRow(draw)
		l := r.list()
		x := api.Extent{Logical: draw.Intn(256), Physical: 1 + draw.Intn(4095), Length: 1 + draw.Intn(4)}
		if at, n := plainFind(r, x.Logical); at == 0 && draw.Intn(2) == 0 {
			x.Length = min(n, 1+draw.Intn(20))
		}
		if i := x.Logical; i > 0 && r[i-1] > 0 && draw.Intn(2) == 0 {
			x.Physical = r[i-1] + 1
		}
		if i := x.Logical + x.Length; i < 256 && r[i] > x.Length && draw.Intn(3) == 0 {
			x.Physical = r[i] - x.Length
		}
		want, f := []api.Extent(nil), api.EINVAL
		if aloneMayBe(x) {
			want, f = plainAdd(r, x)
		}
		codes[f]++
		adds(t, l, x, want, f)
	}
	for _, e := range []api.Errno{api.OK, api.EEXIST, api.EINVAL} {
		if codes[e] < 50 {
			t.Errorf("error %d was answered %d times: the draw asks too little", e, codes[e])
		}
	}
}

// P13.2: what continues on both sides makes one of three; what continues in one of both numbers alone doesn't.
func TestAddBetween(t *testing.T) {
	l := of(0, 2, 100, 5, 2, 105, 9, 1, 7)
	adds(t, l, api.Extent{Logical: 2, Length: 3, Physical: 102}, of(0, 7, 100, 9, 1, 7), api.OK)
	adds(t, l, api.Extent{Logical: 2, Length: 3, Physical: 103}, of(0, 2, 100, 2, 3, 103, 5, 2, 105, 9, 1, 7), api.OK)
	adds(t, l, api.Extent{Logical: 3, Length: 2, Physical: 103}, of(0, 2, 100, 3, 4, 103, 9, 1, 7), api.OK)
	adds(t, l, api.Extent{Logical: 3, Length: 1, Physical: 102}, of(0, 2, 100, 3, 1, 102, 5, 2, 105, 9, 1, 7), api.OK)
	adds(t, l, api.Extent{Logical: 2, Length: 4, Physical: 102}, nil, api.EEXIST)
	adds(t, l, api.Extent{Logical: 0, Length: 256, Physical: 102}, nil, api.EEXIST)
	adds(t, l, api.Extent{Logical: 6, Length: 1, Physical: 102}, nil, api.EEXIST)
	adds(t, l, api.Extent{Logical: 10, Length: 246, Physical: 8}, of(0, 2, 100, 5, 2, 105, 9, 247, 7), api.OK)
	adds(t, nil, api.Extent{Logical: 0, Length: 256, Physical: 3840}, of(0, 256, 3840), api.OK)
	// One block may lie in two places of a file.
	adds(t, of(0, 1, 9), api.Extent{Logical: 1, Length: 1, Physical: 9}, of(0, 1, 9, 1, 1, 9), api.OK)
}

// P13.2, P13.5: each block of drawn files is in one of both lists, and these may be.
func TestCut(t *testing.T) {
	draw := rand.New(rand.NewSource(3))
	for range 3000 {
		r := drawnRow(draw)
		l := r.list()
		for range 8 {
			from := draw.Intn(260)
			to := from + draw.Intn(270-from)
			switch draw.Intn(9) {
			case 0:
				to = from
			case 1:
				to = math.MaxInt
			case 2:
				from, to = math.MaxInt-draw.Intn(2), math.MaxInt
			}
			within := r.only(func(i int) bool { return from <= i && i < to })
			outside := r.only(func(i int) bool { return i < from || to <= i })
			cuts(t, l, from, to, outside.list(), within.list(), api.OK)
		}
	}
}

// P13.2: EINVAL of what is no range; of one that has nothing all is left, in one piece.
func TestCutEdges(t *testing.T) {
	l := of(0, 5, 100, 7, 2, 50)
	for _, c := range [][2]int{{-1, 3}, {-1, -1}, {3, 2}, {1, 0}, {0, -1}, {math.MaxInt, 0}, {math.MinInt, math.MaxInt}, {math.MinInt, math.MinInt}, {256, 255}, {5, math.MinInt}} {
		cuts(t, l, c[0], c[1], nil, nil, api.EINVAL)
		cuts(t, nil, c[0], c[1], nil, nil, api.EINVAL)
	}
	for at := range 300 {
		cuts(t, l, at, at, l, nil, api.OK)
		cuts(t, nil, at, at+9, nil, nil, api.OK)
	}
	cuts(t, l, 0, 256, nil, l, api.OK)
	cuts(t, l, 0, math.MaxInt, nil, l, api.OK)
	cuts(t, l, 4, 8, of(0, 4, 100, 8, 1, 51), of(4, 1, 104, 7, 1, 50), api.OK)
	cuts(t, l, 5, 7, l, nil, api.OK)
	cuts(t, l, 9, math.MaxInt, l, nil, api.OK)
}

// P13.5: files that grow and shrink by Adds and Cuts, each over what the one before answered.
func TestGrown(t *testing.T) {
	draw := rand.New(rand.NewSource(4))
	var r row
	var l []api.Extent
	for range 20000 {
		from := draw.Intn(256)
		to := min(256, from+1+draw.Intn(6))
		x := api.Extent{Logical: from, Length: to - from, Physical: 1 + (7*from+draw.Intn(3))%4000}
		if got, e := extent.Add(l, x); e == api.OK {
			l, r = got, rowOf(append(r.list(), x))
		} else if want, f := plainAdd(r, x); e != f {
			t.Fatalf("Add(%v, %v): %d, want %v %d", l, x, e, want, f)
		}
		if draw.Intn(2) == 0 {
			from = draw.Intn(256)
			to = from + draw.Intn(8)
			var e api.Errno
			if l, _, e = extent.Cut(l, from, to); e != api.OK {
				t.Fatalf("Cut: %d", e)
			}
			r = r.only(func(i int) bool { return i < from || to <= i })
		}
		if !slices.Equal(l, r.list()) || extent.Check(l) != api.OK {
			t.Fatalf("%v, want %v", l, r.list())
		}
	}
}

// R3: what is answered is new memory, and both lists of Cut are two.
func TestListsShared(t *testing.T) {
	l := of(0, 5, 100, 7, 2, 50, 11, 2, 60)
	want := slices.Clone(l)
	spoil := func(x []api.Extent) {
		for i := range x {
			x[i] = api.Extent{Logical: 9, Length: 9, Physical: 9}
		}
		x = append(x, x...)
		_ = append(x[:len(x)/2], of(8, 8, 8, 8, 8, 8)...)
	}
	more, _ := extent.Add(l[:2:3], api.Extent{Logical: 9, Length: 1, Physical: 1})
	again, _ := extent.Add(l[:2:3], api.Extent{Logical: 9, Length: 1, Physical: 1})
	spoil(more)
	if !slices.Equal(l, want) || !slices.Equal(again, of(0, 5, 100, 7, 2, 50, 9, 1, 1)) {
		t.Errorf("%v %v", l, again)
	}
	for _, c := range [][2]int{{0, 0}, {0, 256}, {2, 8}, {20, 30}} {
		a, b, _ := extent.Cut(l, c[0], c[1])
		kept := slices.Clone(b)
		spoil(a)
		if !slices.Equal(l, want) || !slices.Equal(b, kept) {
			t.Errorf("Cut at %v: %v %v", c, l, b)
		}
		a, b, _ = extent.Cut(l, c[0], c[1])
		kept = slices.Clone(a)
		spoil(b)
		if !slices.Equal(l, want) || !slices.Equal(a, kept) {
			t.Errorf("Cut at %v: %v %v", c, l, a)
		}
	}
}
