package bits_test

import (
	"bytes"
	"hash/crc32"
	"math/rand"
	"slices"
	"testing"

	"hayrick/api"
	"hayrick/bits"
)

// sealedBy is a block of any length (4 bytes at least) with the seal that chapter 1 asks for, worked out by somebody else.
func sealedBy(b []byte, seed uint32) []byte {
	out := bytes.Clone(b)
	end := len(out) - 4
	sum := crc32.Update(seed, crc32.MakeTable(crc32.Castagnoli), out[:end])
	for i := range 4 {
		out[end+i] = byte(sum >> (8 * i))
	}
	return out
}

// laid is the bitmap whose bits are free or not, as a list says of each.
func laid(free []bool, seed uint32) []byte {
	b := make([]byte, 256)
	value := 1
	for i, is := range free {
		if i%8 == 0 {
			value = 1
		}
		if !is {
			b[i/8] += byte(value)
		}
		value *= 2
	}
	return sealedBy(b, seed)
}

// firstFree is 2016 bits of which the first n are free.
func firstFree(n int) []bool {
	free := make([]bool, 2016)
	for i := range n {
		free[i] = true
	}
	return free
}

// plainFree is which of the 2016 bits of a block of any length are free.
func plainFree(b []byte) []bool {
	free := make([]bool, 2016)
	for i := range free {
		if i/8 < len(b) {
			value := 1
			for range i % 8 {
				value *= 2
			}
			free[i] = int(b[i/8])/value%2 == 0
		}
	}
	return free
}

// chunk is one that is a buddy's.
type chunk struct{ order, first int }

func (c chunk) length() int { return 1 << c.order }

// chunkIsFree: are all bits of a chunk below 2016, and free?
func chunkIsFree(free []bool, c chunk) bool {
	end := c.first + c.length()
	return end <= 2016 && !slices.Contains(free[c.first:end], false)
}

// plainBuddies are all chunks that are a buddy's, order by order, each order from the front on.
func plainBuddies(free []bool) []chunk {
	var l []chunk
	for order := 0; order <= 10; order++ {
		for first := 0; first < 2016; first += 1 << order {
			around := chunk{order + 1, first / (2 << order) * (2 << order)}
			if chunkIsFree(free, chunk{order, first}) && (order == 10 || !chunkIsFree(free, around)) {
				l = append(l, chunk{order, first})
			}
		}
	}
	return l
}

// plainFind is the chapter's word, of free bits and the chunks of them that are a buddy's.
func plainFind(free []bool, l []chunk, goal, want int) (int, int, bool) {
	if want < 1 || !slices.Contains(free, true) {
		return 0, 0, false
	}
	if goal >= 0 && goal <= 2015 && free[goal] {
		n := 0
		for n < want && goal+n < 2016 && free[goal+n] {
			n++
		}
		return goal, n, true
	}
	k := 10
	for k > 0 && 1<<(k-1) >= want {
		k--
	}
	for _, c := range l {
		if c.order >= k {
			return c.first, min(want, 1024), true
		}
	}
	greatest := l[len(l)-1].order
	at := slices.IndexFunc(l, func(c chunk) bool { return c.order == greatest })
	return l[at].first, l[at].length(), true
}

// made is a bitmap that must be made.
func made(t *testing.T, n int, seed uint32) []byte {
	t.Helper()
	b, e := bits.New(n, seed)
	if e != api.OK {
		t.Fatalf("New(%d, %d): %d", n, seed, e)
	}
	return b
}

// turned is a Turn that must not be refused.
func turned(t *testing.T, b []byte, n, from, count int, on bool, seed uint32) []byte {
	t.Helper()
	c, e := bits.Turn(b, n, from, count, on, seed)
	if e != api.OK {
		t.Fatalf("Turn(b, %d, %d, %d, %v, %d): %d", n, from, count, on, seed, e)
	}
	return c
}

// drawn is 2016 bits of which one in so many is the other one than the most.
func drawn(draw *rand.Rand, oneIn int, most bool) []bool {
	free := make([]bool, 2016)
	for i := range free {
		free[i] = most != (draw.Intn(oneIn) == 0)
	}
	return free
}

// drawnChunks is bits of which some chunks of drawn orders are free.
func drawnChunks(draw *rand.Rand, chunks int) []bool {
	free := make([]bool, 2016)
	for range chunks {
		length := 1 << draw.Intn(11)
		first := draw.Intn(2016) / length * length
		for i := first; i < first+length && i < 2016; i++ {
			free[i] = true
		}
	}
	return free
}

// kinds are bits of many kinds: none, all, the first ones, but one, one alone, chunks, drawn ones.
func kinds() [][]bool {
	var l [][]bool
	for _, n := range []int{0, 1, 2, 3, 7, 8, 9, 10, 31, 32, 33, 63, 64, 100, 127, 128, 255, 256, 511, 512, 513, 1000, 1023, 1024, 1025, 1535, 1536, 1537, 1791, 1792, 1983, 1984, 1985, 2014, 2015, 2016} {
		l = append(l, firstFree(n))
		rest := firstFree(n)
		for i := range rest {
			rest[i] = !rest[i]
		}
		l = append(l, rest)
	}
	for _, i := range []int{0, 1, 2, 7, 8, 500, 511, 512, 1023, 1024, 1025, 1535, 1536, 1983, 1984, 2007, 2008, 2014, 2015} {
		one, others := firstFree(0), firstFree(2016)
		one[i], others[i] = true, false
		l = append(l, one, others)
	}
	for order := range 11 {
		length := 1 << order
		last := 2016/length*length - length
		for _, first := range []int{0, length, last / 2 / length * length, last} {
			if first > last {
				continue
			}
			alone := firstFree(0)
			for i := range length {
				alone[first+i] = true
			}
			l = append(l, alone)
			// As long, but in no chunk of this order: it reaches over two.
			if across := first + length/2; order > 0 && across+length <= 2016 {
				two := firstFree(0)
				for i := range length {
					two[across+i] = true
				}
				l = append(l, two)
			}
		}
	}
	draw := rand.New(rand.NewSource(5))
	for _, oneIn := range []int{2, 3, 8, 50, 400, 2000} {
		l = append(l, drawn(draw, oneIn, false), drawn(draw, oneIn, true))
	}
	for chunks := 1; chunks <= 40; chunks += 3 {
		l = append(l, drawnChunks(draw, chunks))
	}
	return l
}

// blocks are the bitmaps of kinds; and blocks that are none: unsealed ones, and such of other lengths.
func blocks() [][]byte {
	var l [][]byte
	for _, free := range kinds() {
		l = append(l, laid(free, 9))
	}
	draw := rand.New(rand.NewSource(6))
	for _, size := range []int{0, 1, 2, 3, 4, 13, 63, 64, 65, 100, 127, 128, 129, 191, 192, 193, 250, 251, 252, 253, 254, 255, 256, 257, 300, 512, 1000} {
		some := make([]byte, size)
		draw.Read(some)
		few := make([]byte, size)
		for range size / 20 {
			few[draw.Intn(size)] = 1 << draw.Intn(8)
		}
		l = append(l, make([]byte, size), bytes.Repeat([]byte{255}, size), some, few)
	}
	return append(l, nil)
}
