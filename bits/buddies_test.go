package bits_test

import (
	"bytes"
	"math"
	"math/rand"
	"testing"

	"hayrick/api"
	"hayrick/bits"
)

// P5.3: as many as are free, of any block.
func TestZeros(t *testing.T) {
	for n := 0; n <= 2016; n++ {
		if got := bits.Zeros(laid(firstFree(n), 7)); got != n {
			t.Fatalf("Zeros of New(%d): %d", n, got)
		}
	}
	for _, b := range blocks() {
		want := 0
		for _, free := range plainFree(b) {
			if free {
				want++
			}
		}
		kept := bytes.Clone(b)
		if got := bits.Zeros(b); got != want || !bytes.Equal(b, kept) {
			t.Errorf("Zeros(%x): %d, want %d", b, got, want)
		}
	}
}

// P5.3: of each order how many chunks are a buddy's, of any block.
func TestOrders(t *testing.T) {
	for _, b := range blocks() {
		var want [11]int
		for _, c := range plainBuddies(plainFree(b)) {
			want[c.order]++
		}
		kept := bytes.Clone(b)
		if got := bits.Orders(b); got != want || !bytes.Equal(b, kept) {
			t.Errorf("Orders(%x): %v, want %v", b, got, want)
		}
	}
}

// P5.3: counts that are known without a plain one.
func TestOrdersKnown(t *testing.T) {
	for _, c := range []struct {
		b    []byte
		want [11]int
	}{
		{nil, [11]int{}},
		{laid(firstFree(0), 7), [11]int{}},
		{laid(firstFree(1), 7), [11]int{0: 1}},
		{laid(firstFree(10), 7), [11]int{1: 1, 3: 1}},
		{laid(firstFree(1023), 7), [11]int{1, 1, 1, 1, 1, 1, 1, 1, 1, 1, 0}},
		{laid(firstFree(1024), 7), [11]int{10: 1}},
		{laid(firstFree(2016), 7), [11]int{5: 1, 6: 1, 7: 1, 8: 1, 9: 1, 10: 1}}, // a second one of order 10 would reach behind the last bit
		{make([]byte, 256), [11]int{5: 1, 6: 1, 7: 1, 8: 1, 9: 1, 10: 1}},
		{make([]byte, 1000), [11]int{5: 1, 6: 1, 7: 1, 8: 1, 9: 1, 10: 1}},
		{make([]byte, 1), [11]int{3: 1}},
		{[]byte{0x81}, [11]int{0: 2, 1: 2}}, // 1, 2 3, 4 5, 6
		{[]byte{0x99}, [11]int{0: 4}},       // 1, 2, 5, 6: two in a row, but in no chunk of order 1
		{bytes.Repeat([]byte{0x55}, 252), [11]int{0: 1008}},
		{bytes.Repeat([]byte{0x33}, 252), [11]int{1: 504}},
		{bytes.Repeat([]byte{0x66}, 252), [11]int{0: 1008}},
	} {
		if got := bits.Orders(c.b); got != c.want {
			t.Errorf("Orders(%x): %v, want %v", c.b, got, c.want)
		}
	}
}

// wants are how many bits are asked for: the edges of each order, and far from them.
func wants() []int {
	l := []int{math.MinInt, -1024, -1, 0, 1, 2, 3, 5, 6, 7, 100, 1500, 2000, 2014, 2015, 2016, 2017, 4096, 1 << 32, math.MaxInt}
	for order := 2; order <= 11; order++ {
		l = append(l, 1<<order-1, 1<<order, 1<<order+1)
	}
	return l
}

// P5.4, P5.5: what the chapter says, of any block, for goals and numbers of all kinds; what is found is free.
func TestFind(t *testing.T) {
	draw := rand.New(rand.NewSource(4))
	for _, b := range blocks() {
		free := plainFree(b)
		l := plainBuddies(free)
		kept := bytes.Clone(b)
		goals := append([]int{0, 1, 7, 8, 9, 500, 511, 512, 1000, 1023, 1024, 1535, 1536, 2007, 2008, 2014, 2015}, notPlaces...)
		for range 8 {
			goals = append(goals, draw.Intn(2016))
		}
		for _, goal := range goals {
			for _, want := range wants() {
				first, n, ok := bits.Find(b, goal, want)
				x, m, is := plainFind(free, l, goal, want)
				if first != x || n != m || ok != is {
					t.Fatalf("Find(%x, %d, %d): %d %d %v, want %d %d %v", b, goal, want, first, n, ok, x, m, is)
				}
				for i := range n {
					if !free[first+i] {
						t.Fatalf("Find(%x, %d, %d): %d %d, but %d is not free", b, goal, want, first, n, first+i)
					}
				}
			}
		}
		if !bytes.Equal(b, kept) {
			t.Fatal("Find changed what it was given")
		}
	}
}

// P5.4: answers that are known without a plain one.
func TestFindKnown(t *testing.T) {
	ten, all := laid(firstFree(10), 7), laid(firstFree(2016), 7)
	for _, c := range []struct {
		b                      []byte
		goal, want, first, len int
	}{
		{ten, -1, 1, 8, 1},
		{ten, -1, 2, 8, 2},
		{ten, -1, 3, 0, 3},
		{ten, -1, 8, 0, 8},
		{ten, -1, 9, 0, 8},
		{ten, 8, 5, 8, 2},
		{ten, 0, 10, 0, 10},
		{ten, 0, 11, 0, 10},
		{ten, 5, 2, 5, 2},
		{ten, 9, 1, 9, 1},
		{ten, 10, 1, 8, 1},
		{ten, 2016, 3, 0, 3},
		{all, -1, 1, 1984, 1},
		{all, -1, 32, 1984, 32},
		{all, -1, 33, 1920, 33},
		{all, -1, 512, 1024, 512},
		{all, -1, 513, 0, 513},
		{all, -1, 1024, 0, 1024},
		{all, -1, 1025, 0, 1024}, // not by a goal: no more than a chunk
		{all, -1, math.MaxInt, 0, 1024},
		{all, 0, 1025, 0, 1025}, // by a goal: as far as bits are free
		{all, 0, 2016, 0, 2016},
		{all, 0, math.MaxInt, 0, 2016},
		{all, 2015, 7, 2015, 1},
		{all, 2016, 7, 1984, 7},
		{[]byte{0x99}, -1, 2, 1, 1}, // no chunk of order 1: the first one of order 0
		{[]byte{0x0F}, -1, 8, 4, 4}, // the greatest one, of order 2
		{[]byte{0x0F, 0xF0}, 12, 9, 4, 4},
		{[]byte{0x0F, 0xF0}, 6, 9, 6, 6},
		{[]byte{0xFE, 0x0F, 0xFC}, -1, 1, 0, 1},
		{[]byte{0xFE, 0x0F, 0xFC}, -1, 2, 16, 2}, // of the least order, though one of order 2 stands ahead
		{[]byte{0xFE, 0x0F, 0xFC}, -1, 3, 12, 3},
		{[]byte{0xFE, 0x0F, 0xFC}, -1, 5, 12, 4},
	} {
		if first, n, ok := bits.Find(c.b, c.goal, c.want); first != c.first || n != c.len || !ok {
			t.Errorf("Find(%x, %d, %d): %d %d %v, want %d %d", c.b, c.goal, c.want, first, n, ok, c.first, c.len)
		}
	}
}

// P5.2, P5.4: the chapter's second example.
func TestExample(t *testing.T) {
	b := turned(t, made(t, 10, 7), 10, 3, 1, true, 7)
	if first, n, ok := bits.Find(b, 3, 2); first != 0 || n != 2 || !ok {
		t.Errorf("Find(b, 3, 2): %d %d %v, want 0 2", first, n, ok)
	}
	refused(t, b, 10, 3, 1, true, api.EUCLEAN)
	refused(t, b, 10, 9, 2, true, api.EINVAL)
}

// P5.4: nothing is found where no bit is free, or none is wanted.
func TestFindNothing(t *testing.T) {
	for _, goal := range append([]int{0, 5, 2015}, notPlaces...) {
		for _, want := range []int{1, 2, 1024, 2016, math.MaxInt} {
			for _, b := range [][]byte{nil, {}, {255}, bytes.Repeat([]byte{255}, 300), laid(firstFree(0), 7)} {
				if first, n, ok := bits.Find(b, goal, want); first != 0 || n != 0 || ok {
					t.Errorf("Find(%x, %d, %d): %d %d %v", b, goal, want, first, n, ok)
				}
			}
		}
		for _, want := range []int{0, -1, -1024, math.MinInt} {
			for _, b := range [][]byte{nil, {0}, laid(firstFree(10), 7), laid(firstFree(2016), 7)} {
				if first, n, ok := bits.Find(b, goal, want); first != 0 || n != 0 || ok {
					t.Errorf("Find(%x, %d, %d): %d %d %v", b, goal, want, first, n, ok)
				}
			}
		}
	}
}

// P5.5: buddies part the free bits, whatever is turned.
func TestBuddiesPart(t *testing.T) {
	draw := rand.New(rand.NewSource(7))
	for _, n := range []int{10, 300, 1999, 2016} {
		b := made(t, n, 7)
		for range 400 {
			// Take what is found, or give back a row of bits.
			if draw.Intn(3) > 0 {
				if first, count, ok := bits.Find(b, draw.Intn(n+1)-1, 1+draw.Intn(1+n/8)); ok {
					b = turned(t, b, n, first, count, true, 7)
				}
			} else if at := draw.Intn(n); !plainFree(b)[at] {
				b = turned(t, b, n, at, 1, false, 7)
			}
			counts, sum := bits.Orders(b), 0
			for order, count := range counts {
				sum += count << order
			}
			if zeros := bits.Zeros(b); sum != zeros {
				t.Fatalf("Orders(%x): %v, in all %d bits, but Zeros %d", b, counts, sum, zeros)
			}
		}
	}
}

// P1, R1: no call panics, and each ends, whatever it is given.
func TestNoPanic(t *testing.T) {
	numbers := []int{math.MinInt, math.MinInt + 1, math.MinInt32, -2017, -9, -8, -1, 0, 1, 7, 8, 9, 10, 255, 256, 1023, 1024, 1025, 2008, 2015, 2016, 2017, 2048, math.MaxInt32, math.MaxInt - 1, math.MaxInt}
	texts := [][]byte{nil, {}, {0}, {255, 0}, make([]byte, 251), make([]byte, 252), make([]byte, 253), make([]byte, 256), laid(firstFree(10), 7), laid(firstFree(2016), 7), make([]byte, 257), make([]byte, 5000)}
	for _, b := range texts {
		bits.Zeros(b)
		bits.Orders(b)
		for _, x := range numbers {
			bits.New(x, 7)
			bits.Check(b, x, 7)
			bits.Test(b, x)
			for _, y := range numbers {
				bits.Find(b, x, y)
				for _, n := range []int{-1, 0, 10, 2016, 2017} {
					bits.Turn(b, n, x, y, true, 7)
					bits.Turn(b, n, x, y, false, 7)
				}
			}
		}
	}
}
