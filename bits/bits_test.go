package bits_test

import (
	"bytes"
	"math"
	"math/rand"
	"testing"

	"hayrick/api"
	"hayrick/bits"
)

var (
	seeds     = []uint32{0, 1, 7, 300, 0x80000000, 0xFFFFFFFF}
	notSizes  = []int{math.MinInt, -2016, -8, -1, 2017, 2018, 2024, 2048, 4096, 1 << 32, 1<<32 + 10, math.MaxInt}
	notPlaces = []int{math.MinInt, math.MinInt + 7, -2016, -8, -1, 2016, 2017, 2023, 2024, 2047, 2048, 1 << 32, math.MaxInt - 7, math.MaxInt}
)

// P5.1: the first n bits are free, all others set; the seal is that of the seed.
func TestNew(t *testing.T) {
	for n := 0; n <= 2016; n++ {
		b, e := bits.New(n, 7)
		if want := laid(firstFree(n), 7); e != api.OK || !bytes.Equal(b, want) {
			t.Fatalf("New(%d, 7): %x %d, want %x", n, b, e, want)
		}
	}
	for _, seed := range seeds {
		for _, n := range []int{0, 1, 10, 2015, 2016} {
			if b, e := bits.New(n, seed); e != api.OK || !bytes.Equal(b, laid(firstFree(n), seed)) {
				t.Errorf("New(%d, %d): %x %d", n, seed, b, e)
			}
		}
	}
	if api.MaxBits != 2016 || api.BlockSize != 256 {
		t.Error("these tests are for blocks of 256 bytes, with 2016 bits")
	}
}

// P5.1: nothing and EINVAL of other numbers.
func TestNewWrong(t *testing.T) {
	for _, n := range notSizes {
		if b, e := bits.New(n, 7); len(b) != 0 || e != api.EINVAL {
			t.Errorf("New(%d, 7): %x %d", n, b, e)
		}
	}
}

// P5.1: OK of what New made, and of any bits ahead of n; a bitmap of n is one of each greater number too.
func TestCheck(t *testing.T) {
	for n := 0; n <= 2016; n++ {
		b := laid(firstFree(n), 7)
		if e := bits.Check(b, n, 7); e != api.OK {
			t.Fatalf("Check of New(%d): %d", n, e)
		}
		for _, more := range []int{n + 1, n + 8, 2016} {
			if e := bits.Check(b, more, 7); more <= 2016 && e != api.OK {
				t.Fatalf("Check of New(%d), of %d bits: %d", n, more, e)
			}
		}
	}
	for _, free := range kinds() {
		for _, seed := range seeds {
			if e := bits.Check(laid(free, seed), 2016, seed); e != api.OK {
				t.Errorf("Check of 2016 bits, seed %d: %d", seed, e)
			}
		}
	}
	draw := rand.New(rand.NewSource(1))
	for range 500 {
		n := draw.Intn(2017)
		free := drawn(draw, 2, true)
		clear(free[n:])
		b := laid(free, 3)
		kept := bytes.Clone(b)
		if e := bits.Check(b, n, 3); e != api.OK || !bytes.Equal(b, kept) {
			t.Errorf("Check of %d drawn bits: %d", n, e)
		}
	}
}

// P5.1: EINVAL, if n may not be, whatever the block is.
func TestCheckWrongSize(t *testing.T) {
	for _, n := range notSizes {
		for _, b := range [][]byte{laid(firstFree(0), 7), laid(firstFree(2016), 7), make([]byte, 256), make([]byte, 10), nil} {
			if e := bits.Check(b, n, 7); e != api.EINVAL {
				t.Errorf("Check(%d bytes, %d, 7): %d", len(b), n, e)
			}
		}
	}
}

// unclean: is it EUCLEAN that Check answers, and Turn of whatever bits, be they such that would be EINVAL?
func unclean(t *testing.T, b []byte, n int, seed uint32) {
	t.Helper()
	if e := bits.Check(b, n, seed); e != api.EUCLEAN {
		t.Errorf("Check(%d bytes, %d, %d): %d, want EUCLEAN", len(b), n, seed, e)
	}
	for _, count := range []int{0, 1, n + 1} {
		for _, on := range []bool{true, false} {
			if c, e := bits.Turn(b, n, 0, count, on, seed); len(c) != 0 || e != api.EUCLEAN {
				t.Errorf("Turn(%d bytes, %d, 0, %d, %v, %d): %x %d, want EUCLEAN", len(b), n, count, on, seed, c, e)
			}
		}
	}
}

// P5.1, P5.2: EUCLEAN of blocks of another length, sealed or not, and of other seeds.
func TestUncleanLengthOrSeed(t *testing.T) {
	for _, size := range []int{4, 5, 8, 128, 251, 252, 253, 255, 257, 260, 300, 512} {
		for _, x := range []byte{0, 255} {
			b := sealedBy(bytes.Repeat([]byte{x}, size), 7)
			for _, n := range []int{0, 1, 10, 2016} {
				unclean(t, b, n, 7)
			}
		}
	}
	for _, size := range []int{0, 1, 2, 3} {
		unclean(t, make([]byte, size), 0, 0)
		unclean(t, make([]byte, size), 2016, 7)
	}
	unclean(t, nil, 0, 0)
	unclean(t, nil, 2016, 7)
	for _, n := range []int{0, 10, 2016} {
		b := laid(firstFree(n), 7)
		for _, seed := range []uint32{0, 6, 8, 7 + 256, 7 + 1<<31} {
			unclean(t, b, n, seed)
		}
		unclean(t, append(bytes.Clone(b), 0), n, 7)
		unclean(t, b[:255], n, 7)
	}
}

// P5.1, P5.2: EUCLEAN, if one bit turned, of the seal too.
func TestUncleanTurned(t *testing.T) {
	for _, n := range []int{0, 10, 1000, 2016} {
		b := laid(firstFree(n), 7)
		for i := range 2048 {
			b[i/8] ^= 1 << (i % 8)
			unclean(t, b, n, 7)
			b[i/8] ^= 1 << (i % 8)
		}
	}
}

// P5.1, P5.2: EUCLEAN, if a bit from n on is free, though the seal is right.
func TestUncleanBehind(t *testing.T) {
	for _, n := range []int{0, 1, 7, 8, 9, 10, 1000, 2008, 2014, 2015} {
		for i := n; i < 2016; i++ {
			free := firstFree(n)
			free[i] = true
			unclean(t, laid(free, 7), n, 7)
			if e := bits.Check(laid(free, 7), i+1, 7); e != api.OK {
				t.Errorf("Check of %d bits, of which %d is free: %d", i+1, i, e)
			}
		}
	}
	unclean(t, laid(firstFree(2016), 7), 0, 7)
}

// P5.2: of any block: is the bit set? Of bits that are not there: yes.
func TestTest(t *testing.T) {
	for _, b := range blocks() {
		kept := bytes.Clone(b)
		for i, free := range plainFree(b) {
			if set, e := bits.Test(b, i); set == free || e != api.OK {
				t.Fatalf("Test(%x, %d): %v %d, want %v", b, i, set, e, !free)
			}
		}
		for _, i := range notPlaces {
			if set, e := bits.Test(b, i); set || e != api.EINVAL {
				t.Errorf("Test(%d bytes, %d): %v %d", len(b), i, set, e)
			}
		}
		if !bytes.Equal(b, kept) {
			t.Error("Test changed what it was given")
		}
	}
}

// P5.2: what bits lie in which byte, told one by one.
func TestTestBytes(t *testing.T) {
	b := []byte{0x01, 0x80, 0x34}
	set := map[int]bool{0: true, 15: true, 18: true, 20: true, 21: true}
	for i := range 24 {
		if got, e := bits.Test(b, i); got != set[i] || e != api.OK {
			t.Errorf("Test(01 80 34, %d): %v %d", i, got, e)
		}
	}
	for _, i := range []int{24, 25, 31, 32, 2015} {
		if got, e := bits.Test(b, i); !got || e != api.OK {
			t.Errorf("Test(01 80 34, %d): %v %d", i, got, e)
		}
	}
}

// P5.2: just these bits are turned, all others stay; the block is sealed, and new.
func TestTurn(t *testing.T) {
	draw := rand.New(rand.NewSource(2))
	for range 3000 {
		n := 1 + draw.Intn(2016)
		if draw.Intn(3) == 0 {
			n = 1 + draw.Intn(20)
		}
		from := draw.Intn(n)
		count := 1 + draw.Intn(n-from)
		on := draw.Intn(2) == 0
		seed := draw.Uint32()
		free := drawn(draw, 2, true)
		clear(free[n:])
		for i := range count {
			free[from+i] = on
		}
		b := laid(free, seed)
		kept := bytes.Clone(b)
		c, e := bits.Turn(b, n, from, count, on, seed)
		for i := range count {
			free[from+i] = !on
		}
		if e != api.OK || !bytes.Equal(c, laid(free, seed)) {
			t.Fatalf("Turn(b, %d, %d, %d, %v, %d): %x %d", n, from, count, on, seed, c, e)
		}
		clear(c)
		if !bytes.Equal(b, kept) {
			t.Fatal("Turn changed what it was given, or shares it")
		}
	}
}

// P5.2, P5.5: each row of bits of a small bitmap, and the edges of the greatest; on and off again leads back, off and on as well.
func TestTurnEdges(t *testing.T) {
	there := func(n, from, count int) {
		free, other := firstFree(n), firstFree(n)
		for i := range count {
			other[from+i] = false
		}
		on := turned(t, laid(free, 7), n, from, count, true, 7)
		if !bytes.Equal(on, laid(other, 7)) {
			t.Errorf("Turn of %d from %d on, of %d: %x", count, from, n, on)
		}
		off := turned(t, on, n, from, count, false, 7)
		if !bytes.Equal(off, laid(free, 7)) {
			t.Errorf("Turn back of %d from %d on, of %d: %x", count, from, n, off)
		}
		if again := turned(t, off, n, from, count, true, 7); !bytes.Equal(again, on) {
			t.Errorf("Turn again of %d from %d on, of %d: %x", count, from, n, again)
		}
	}
	for n := 1; n <= 18; n++ {
		for from := range n {
			for count := 1; from+count <= n; count++ {
				there(n, from, count)
			}
		}
	}
	for _, n := range []int{1024, 2008, 2015, 2016} {
		there(n, 0, n)
		there(n, 0, 1)
		there(n, n-1, 1)
		there(n, n-9, 9)
		there(n, 1, n-2)
	}
}

// refused: is it that error alone which Turn answers?
func refused(t *testing.T, b []byte, n, from, count int, on bool, want api.Errno) {
	t.Helper()
	kept := bytes.Clone(b)
	if c, e := bits.Turn(b, n, from, count, on, 7); len(c) != 0 || e != want {
		t.Errorf("Turn(b, %d, %d, %d, %v, 7): %x %d, want %d", n, from, count, on, c, e, want)
	}
	if !bytes.Equal(b, kept) {
		t.Errorf("Turn(b, %d, %d, %d, %v, 7) changed what it was given", n, from, count, on)
	}
}

// outside are rows of bits, from one on and so many, that have none or do not all lie below n.
func outside(n int) [][2]int {
	var l [][2]int
	for _, from := range []int{math.MinInt, math.MinInt + 1, -n - 1, -2, -1, 0, 1, n / 2, n - 1, n, n + 1, 2015, 2016, math.MaxInt - 1, math.MaxInt} {
		for _, count := range []int{math.MinInt, math.MinInt + 1, -n, -1, 0} {
			l = append(l, [2]int{from, count}, [2]int{-count, count})
		}
		for _, count := range []int{1, 2, n, n + 1, n + 2, n - from, n - from + 1, n - from + 2, 2017, math.MaxInt - from, math.MaxInt - from + 1, math.MaxInt} {
			if from < 0 || count < 1 || from > n-count {
				l = append(l, [2]int{from, count})
			}
		}
	}
	return l
}

// P5.2: EINVAL, if n may not be, whatever the block and the bits are.
func TestTurnWrongSize(t *testing.T) {
	for _, n := range notSizes {
		for _, b := range [][]byte{nil, make([]byte, 256), laid(firstFree(0), 7), laid(firstFree(2016), 7)} {
			for _, on := range []bool{true, false} {
				refused(t, b, n, 0, 1, on, api.EINVAL)
				refused(t, b, n, -1, 0, on, api.EINVAL)
			}
		}
	}
}

// P5.2: EINVAL, if there are no such bits below n: that stands ahead of what the bits are.
func TestTurnOutside(t *testing.T) {
	for _, n := range []int{0, 1, 10, 16, 2015, 2016} {
		for _, row := range outside(n) {
			for _, b := range [][]byte{laid(firstFree(n), 7), laid(firstFree(0), 7)} {
				refused(t, b, n, row[0], row[1], true, api.EINVAL)
				refused(t, b, n, row[0], row[1], false, api.EINVAL)
			}
		}
	}
}

// P5.2: EUCLEAN, if one bit, be it the first one or the last one, has the value already.
func TestTurnHasIt(t *testing.T) {
	const n, from, count = 100, 30, 40
	for i := range n {
		for _, on := range []bool{true, false} {
			free := firstFree(0)
			for j := range n {
				free[j] = on != (i == j)
			}
			b := laid(free, 7)
			if i >= from && i < from+count {
				refused(t, b, n, from, count, on, api.EUCLEAN)
			} else {
				turned(t, b, n, from, count, on, 7)
			}
			refused(t, b, n, i, 1, on, api.EUCLEAN)
			turned(t, b, n, i, 1, !on, 7)
		}
	}
	for _, n := range []int{1, 10, 2016} {
		refused(t, laid(firstFree(n), 7), n, 0, 1, false, api.EUCLEAN)
		refused(t, laid(firstFree(n), 7), n, n-1, 1, false, api.EUCLEAN)
		refused(t, laid(firstFree(n), 7), n, 0, n, false, api.EUCLEAN)
		refused(t, laid(firstFree(0), 7), n, 0, 1, true, api.EUCLEAN)
		refused(t, laid(firstFree(0), 7), n, n-1, 1, true, api.EUCLEAN)
		refused(t, laid(firstFree(0), 7), n, 0, n, true, api.EUCLEAN)
	}
}

// R3: two that were made share nothing.
func TestNothingShared(t *testing.T) {
	a, b := made(t, 10, 7), made(t, 10, 7)
	c, d := turned(t, a, 10, 3, 1, true, 7), turned(t, a, 10, 3, 1, true, 7)
	clear(a)
	clear(c)
	other := firstFree(10)
	if !bytes.Equal(b, laid(other, 7)) {
		t.Error("New answered the same memory twice")
	}
	other[3] = false
	if !bytes.Equal(d, laid(other, 7)) {
		t.Error("Turn answered the same memory twice")
	}
	clear(d)
	if !bytes.Equal(made(t, 10, 7), laid(firstFree(10), 7)) {
		t.Error("New keeps what it answered")
	}
}
