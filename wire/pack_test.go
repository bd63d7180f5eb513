package wire_test

import (
	"bytes"
	"math"
	"math/rand"
	"slices"
	"testing"

	"hayrick/api"
	"hayrick/wire"
)

// P1.4: numbers one behind the other, each in its width.
func TestUnpack(t *testing.T) {
	for _, c := range []struct {
		b      []byte
		widths []int
		want   []uint64
	}{
		{nil, nil, nil},
		{[]byte{}, []int{}, nil},
		{[]byte{5}, []int{1}, []uint64{5}},
		{[]byte{5, 2, 1}, []int{1, 2}, []uint64{5, 258}},
		{[]byte{5, 2, 1}, []int{2, 1}, []uint64{517, 1}},
		{[]byte{1, 2, 3, 4, 5, 6, 7, 0x88}, []int{8}, []uint64{0x8807060504030201}},
		{[]byte{1, 2, 3, 4, 5, 6, 7, 8}, []int{3, 5}, []uint64{0x030201, 0x0807060504}},
	} {
		if l, e := wire.Unpack(c.b, c.widths); e != api.OK || !slices.Equal(l, c.want) {
			t.Errorf("Unpack(%x, %v): %v %d, want %v", c.b, c.widths, l, e, c.want)
		}
	}
	all := make([]int, 0, 8)
	for n := 1; n <= 8; n++ {
		all = append(all, n)
	}
	b := row(36)
	l, e := wire.Unpack(b, all)
	if e != api.OK || len(l) != 8 {
		t.Fatalf("Unpack by all widths: %v %d", l, e)
	}
	at := 0
	for i, n := range all {
		if want := plainNumber(b[at : at+n]); l[i] != want {
			t.Errorf("Unpack by all widths, of width %d: %d, want %d", n, l[i], want)
		}
		at += n
	}
}

// P1.4: EINVAL, by a width, or by bytes that lack or are too many.
func TestUnpackWrong(t *testing.T) {
	wrong := func(b []byte, widths []int) {
		if l, e := wire.Unpack(b, widths); l != nil || e != api.EINVAL {
			t.Errorf("Unpack(%d bytes, %v): %v %d", len(b), widths, l, e)
		}
	}
	for _, n := range wrongWidths {
		wrong(nil, []int{n})
		wrong(row(9), []int{n})
		wrong(row(1), []int{1, n})
		wrong(row(1), []int{n, 1})
		wrong(row(8), []int{n, 8 - n})
	}
	wrong(row(2), []int{1, 2})
	wrong(row(4), []int{1, 2})
	wrong(row(1), nil)
	wrong(nil, []int{1})
	wrong(row(2)[:1], []int{2})
}

// P1.4: numbers one behind the other, noughts behind them.
func TestPack(t *testing.T) {
	for _, c := range []struct {
		l      []uint64
		widths []int
		size   int
		want   []byte
	}{
		{[]uint64{5, 258}, []int{1, 2}, 4, []byte{5, 2, 1, 0}},
		{[]uint64{5, 258}, []int{1, 2}, 3, []byte{5, 2, 1}},
		{[]uint64{255, 65535}, []int{1, 2}, 3, []byte{255, 255, 255}},
		{[]uint64{258, 5}, []int{3, 1}, 6, []byte{2, 1, 0, 5, 0, 0}},
		{[]uint64{math.MaxUint64, 1 << 63}, []int{8, 8}, 16, []byte{255, 255, 255, 255, 255, 255, 255, 255, 0, 0, 0, 0, 0, 0, 0, 128}},
		{nil, nil, 0, []byte{}},
		{nil, nil, 3, []byte{0, 0, 0}},
		{[]uint64{7}, []int{1}, 4096, append([]byte{7}, make([]byte, 4095)...)},
		{make([]uint64, 4096), slices.Repeat([]int{1}, 4096), 4096, make([]byte, 4096)},
		{make([]uint64, 512), slices.Repeat([]int{8}, 512), 4096, make([]byte, 4096)},
	} {
		if b, e := wire.Pack(c.l, c.widths, c.size); e != api.OK || !bytes.Equal(b, c.want) {
			t.Errorf("Pack(%d numbers, size %d): %x %d, want %x", len(c.l), c.size, b, e, c.want)
		}
	}
}

// P1.4: EINVAL, by counts, a width, or the size; and that stands ahead of ERANGE.
func TestPackWrong(t *testing.T) {
	wrong := func(l []uint64, widths []int, size int, want api.Errno) {
		if b, e := wire.Pack(l, widths, size); b != nil || e != want {
			t.Errorf("Pack(%v, %v, %d): %x %d, want %d", l, widths, size, b, e, want)
		}
	}
	for _, x := range []uint64{0, math.MaxUint64} {
		wrong([]uint64{x}, []int{1, 2}, 4, api.EINVAL)
		wrong([]uint64{x, x, x}, []int{1, 2}, 4, api.EINVAL)
		wrong([]uint64{x}, nil, 4, api.EINVAL)
		wrong(nil, []int{1}, 4, api.EINVAL)
		for _, n := range wrongWidths {
			wrong([]uint64{x}, []int{n}, 4096, api.EINVAL)
			wrong([]uint64{x, x}, []int{1, n}, 4096, api.EINVAL)
			wrong([]uint64{x, x}, []int{n, 1}, 4096, api.EINVAL)
			wrong([]uint64{x, x}, []int{n, 8 - n}, 8, api.EINVAL)
		}
		for _, size := range []int{-1, 0, 2, 4097, math.MinInt, math.MaxInt} {
			wrong([]uint64{x, x}, []int{1, 2}, size, api.EINVAL)
		}
	}
	wrong(nil, nil, -1, api.EINVAL)
	wrong(nil, nil, 4097, api.EINVAL)
	wrong(make([]uint64, 513), slices.Repeat([]int{8}, 513), 4104, api.EINVAL)
	wrong(make([]uint64, 513), slices.Repeat([]int{8}, 513), 4096, api.EINVAL)
	for n := 1; n < 8; n++ {
		for _, x := range []uint64{1 << (8 * n), 1 << 63, math.MaxUint64} {
			wrong([]uint64{x}, []int{n}, 8, api.ERANGE)
			wrong([]uint64{0, x}, []int{8, n}, 16, api.ERANGE)
			wrong([]uint64{x, 0}, []int{n, 8}, 16, api.ERANGE)
		}
	}
}

// P1.5: Unpack of Pack is the list.
func TestPackThenUnpack(t *testing.T) {
	draw := rand.New(rand.NewSource(1))
	for range 2000 {
		n := draw.Intn(40)
		widths, l, size := make([]int, n), make([]uint64, n), 0
		for i := range n {
			widths[i] = 1 + draw.Intn(8)
			l[i] = draw.Uint64() & greatest(widths[i])
			size += widths[i]
		}
		b, e := wire.Pack(l, widths, size)
		if e != api.OK || len(b) != size {
			t.Fatalf("Pack(%v, %v, %d): %x %d", l, widths, size, b, e)
		}
		if got, e := wire.Unpack(b, widths); e != api.OK || !slices.Equal(got, l) {
			t.Fatalf("Unpack of Pack(%v, %v, %d): %v %d", l, widths, size, got, e)
		}
		if more, e := wire.Pack(l, widths, size+9); e != api.OK || !bytes.Equal(more, append(b, make([]byte, 9)...)) {
			t.Fatalf("Pack(%v, %v, %d): %x %d", l, widths, size+9, more, e)
		}
	}
}

// R3: what is handed in stays as it was, and answers are new memory.
func TestNothingShared(t *testing.T) {
	l, widths := []uint64{5, 258}, []int{1, 2}
	b, _ := wire.Pack(l, widths, 3)
	again, _ := wire.Pack(l, widths, 3)
	got, _ := wire.Unpack(b, widths)
	b[0], l[0], widths[0] = 9, 9, 9
	if !slices.Equal(got, []uint64{5, 258}) || !bytes.Equal(again, []byte{5, 2, 1}) {
		t.Errorf("%v %x", got, again)
	}
	got[1] = 7
	if !bytes.Equal(b, []byte{9, 2, 1}) || !slices.Equal(l, []uint64{9, 258}) || !slices.Equal(widths, []int{9, 2}) {
		t.Errorf("%x %v %v", b, l, widths)
	}
}
