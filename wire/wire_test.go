package wire_test

import (
	"bytes"
	"math"
	"testing"

	"hayrick/api"
	"hayrick/wire"
)

// wrongWidths are widths that no number has.
var wrongWidths = []int{0, -1, 9, 16, 64, 256, math.MinInt, math.MaxInt, math.MinInt / 8, math.MaxInt/8 + 1}

// wrongPlaces are places at which no number stands in n bytes of b.
func wrongPlaces(b []byte, n int) []int {
	return []int{-1, -n, len(b) - n + 1, len(b), len(b) + 1, math.MinInt, math.MaxInt, math.MaxInt - n + 1, math.MinInt + n}
}

// plainNumber is the number that bytes are, the least one first.
func plainNumber(b []byte) uint64 {
	x := uint64(0)
	for i := len(b) - 1; i >= 0; i-- {
		x = x*256 + uint64(b[i])
	}
	return x
}

// greatest is the greatest number that goes into n bytes.
func greatest(n int) uint64 {
	if n == 8 {
		return math.MaxUint64
	}
	return 1<<(8*n) - 1
}

// P1.2: each width at each place.
func TestGet(t *testing.T) {
	b := []byte{1, 2, 3, 0xFF, 0x80, 0, 0x7F, 0xFE, 9, 0xA0, 0xB1, 0xC2}
	for n := 1; n <= 8; n++ {
		for at := 0; at <= len(b)-n; at++ {
			x, e := wire.Get(b, at, n)
			if want := plainNumber(b[at : at+n]); x != want || e != api.OK {
				t.Errorf("Get(b, %d, %d): %d %d, want %d", at, n, x, e, want)
			}
		}
	}
	if x, e := wire.Get([]byte{1, 2, 3}, 1, 2); x != 770 || e != api.OK {
		t.Errorf("Get(1 2 3, 1, 2): %d %d", x, e)
	}
	if x, e := wire.Get(bytes.Repeat([]byte{0xFF}, 8), 0, 8); x != math.MaxUint64 || e != api.OK {
		t.Errorf("Get of eight bytes of 255: %d %d", x, e)
	}
}

// P1.2: EINVAL, by the width, the place, or bytes that lack.
func TestGetWrong(t *testing.T) {
	wrong := func(b []byte, at, n int) {
		if x, e := wire.Get(b, at, n); x != 0 || e != api.EINVAL {
			t.Errorf("Get(%d bytes, %d, %d): %d %d", len(b), at, n, x, e)
		}
	}
	b := bytes.Repeat([]byte{0xFF}, 20)
	for _, n := range wrongWidths {
		for _, at := range []int{0, 1, 12, -1, math.MinInt, math.MaxInt} {
			wrong(b, at, n)
		}
	}
	for n := 1; n <= 8; n++ {
		for _, at := range wrongPlaces(b, n) {
			wrong(b, at, n)
		}
		wrong(nil, 0, n)
		wrong(b[:n-1], 0, n)
		wrong(b[:n-1:20], 0, n) // what lies behind a slice's end is not its own
	}
}

// P1.2, P1.5: what was put stands there, the least byte first, and nothing else is touched.
func TestPut(t *testing.T) {
	for n := 1; n <= 8; n++ {
		for at := 0; at+n <= 12; at++ {
			for _, x := range []uint64{0, 1, 0x81, greatest(n), greatest(n) - 1, greatest(n)/2 + 1, 0x0102030405060708 & greatest(n)} {
				b := row(12)
				if e := wire.Put(b, at, n, x); e != api.OK {
					t.Fatalf("Put(b, %d, %d, %d): %d", at, n, x, e)
				}
				want := row(12)
				for i, rest := 0, x; i < n; i, rest = i+1, rest/256 {
					want[at+i] = byte(rest % 256)
				}
				if !bytes.Equal(b, want) {
					t.Errorf("Put(b, %d, %d, %d): %x, want %x", at, n, x, b, want)
				}
				if y, e := wire.Get(b, at, n); y != x || e != api.OK {
					t.Errorf("Get of Put(b, %d, %d, %d): %d %d", at, n, x, y, e)
				}
			}
		}
	}
}

// P1.2: what is refused writes nothing; EINVAL stands ahead of ERANGE.
func TestPutWrong(t *testing.T) {
	wrong := func(at, n int, x uint64, want api.Errno) {
		b := row(20)
		if e := wire.Put(b, at, n, x); e != want || !bytes.Equal(b, row(20)) {
			t.Errorf("Put(b, %d, %d, %d): %d, want %d; %x", at, n, x, e, want, b)
		}
	}
	for _, x := range []uint64{0, 1, math.MaxUint64} {
		for _, n := range wrongWidths {
			for _, at := range []int{0, 1, 12, -1, math.MinInt, math.MaxInt} {
				wrong(at, n, x, api.EINVAL)
			}
		}
		for n := 1; n <= 8; n++ {
			for _, at := range wrongPlaces(row(20), n) {
				wrong(at, n, x, api.EINVAL)
			}
			if e := wire.Put(nil, 0, n, x); e != api.EINVAL {
				t.Errorf("Put(nil, 0, %d, %d): %d", n, x, e)
			}
		}
	}
	for n := 1; n < 8; n++ {
		for _, x := range []uint64{1 << (8 * n), 1<<(8*n) + 1, 1 << 63, math.MaxUint64} {
			wrong(0, n, x, api.ERANGE)
			wrong(20-n, n, x, api.ERANGE)
		}
	}
}

// P1.3: the last four bytes are the sum of all ahead, those ahead stay.
func TestSeal(t *testing.T) {
	for _, seed := range []uint32{0, 1, 0x80000000, 0xFFFFFFFF} {
		for _, n := range []int{4, 5, 7, 8, 128, 255, 256, 300} {
			b := row(n)
			if e := wire.Seal(b, seed); e != api.OK {
				t.Fatalf("Seal of %d bytes: %d", n, e)
			}
			if !bytes.Equal(b[:n-4], row(n)[:n-4]) {
				t.Errorf("Seal of %d bytes changed what stands ahead", n)
			}
			if got, want := plainNumber(b[n-4:]), uint64(plainCrc(seed, b[:n-4])); got != want {
				t.Errorf("Seal of %d bytes: %08X, want %08X", n, got, want)
			}
			if !wire.Sealed(b, seed) {
				t.Errorf("Sealed of %d bytes that were sealed: false", n)
			}
		}
	}
}

// P1.3: of fewer than four bytes none is written, and none is sealed.
func TestSealWrong(t *testing.T) {
	for n := range 4 {
		for _, b := range [][]byte{row(n), row(8)[:n]} {
			if e := wire.Seal(b, 0); e != api.EINVAL || !bytes.Equal(b[:cap(b)], row(cap(b))) {
				t.Errorf("Seal of %d bytes: %d; %x", n, e, b[:cap(b)])
			}
		}
		// Four noughts are the seal of nothing with the seed 0: a part of them is none.
		if wire.Sealed(make([]byte, n), 0) {
			t.Errorf("Sealed of %d bytes: true", n)
		}
	}
	if e := wire.Seal(nil, 5); e != api.EINVAL || wire.Sealed(nil, 0) {
		t.Errorf("Seal(nil): %d", e)
	}
	if !wire.Sealed(make([]byte, 4), 0) {
		t.Error("Sealed of four noughts with the seed 0: false")
	}
}

// P1.3, P1.5: no bit may be turned, and the seed is the one that it was sealed with.
func TestSealedTurned(t *testing.T) {
	for _, n := range []int{4, 5, 40, 256} {
		b := row(n)
		wire.Seal(b, 77)
		for i := range 8 * n {
			b[i/8] ^= 1 << (i % 8)
			if wire.Sealed(b, 77) {
				t.Errorf("Sealed of %d bytes with the bit %d turned: true", n, i)
			}
			b[i/8] ^= 1 << (i % 8)
		}
		for i := range 32 {
			if wire.Sealed(b, 77^1<<i) {
				t.Errorf("Sealed of %d bytes with bit %d of the seed turned: true", n, i)
			}
		}
		kept := bytes.Clone(b)
		if !wire.Sealed(b, 77) || !bytes.Equal(b, kept) {
			t.Errorf("Sealed of %d bytes: false, or they were changed", n)
		}
	}
}

// R1: no call panics, whatever it is given.
func TestNoPanic(t *testing.T) {
	numbers := []int{math.MinInt, math.MinInt + 1, math.MinInt32, -9, -8, -1, 0, 1, 2, 4, 7, 8, 9, 63, 64, 4096, 4097, math.MaxInt32, math.MaxInt - 8, math.MaxInt - 7, math.MaxInt}
	texts := [][]byte{nil, {}, row(1), row(3), row(4), row(8), row(9), row(256)}
	for _, b := range texts {
		for _, at := range numbers {
			for _, n := range numbers {
				wire.Get(b, at, n)
				wire.Put(bytes.Clone(b), at, n, math.MaxUint64)
				wire.Unpack(b, []int{at, n})
				wire.Pack([]uint64{0, math.MaxUint64}, []int{at, n}, 16)
				wire.Pack([]uint64{0}, []int{at}, n)
				wire.Pack(nil, []int{at}, n)
			}
			wire.Unpack(b, nil)
			wire.Pack(nil, nil, at)
		}
		wire.Sealed(b, 0)
		wire.Seal(bytes.Clone(b), math.MaxUint32)
	}
}
