// Package wire is layer 1, numbers in bytes and sums over bytes: see shared/doc/01-wire.md.
package wire

import "hayrick/api"

const (
	maxWidth = 8    // bytes of a number of 64 bits
	maxSize  = 4096 // bytes that Pack answers
	sealSize = 4    // bytes of a seal
)

// Get is a number of n bytes.
func Get(b []byte, at, n int) (x uint64, e api.Errno) {
	defer func() { e = givenUp(recover()) }()
	return get(b, at, n), api.OK
}

// Put writes a number into n bytes.
func Put(b []byte, at, n int, x uint64) (e api.Errno) {
	defer func() { e = givenUp(recover()) }()
	put(b, at, n, x)
	return api.OK
}

// Seal writes the sum of all bytes ahead into the last four.
func Seal(b []byte, seed uint32) (e api.Errno) {
	defer func() { e = givenUp(recover()) }()
	must(len(b) >= sealSize, api.EINVAL)
	at := len(b) - sealSize
	put(b, at, sealSize, uint64(Crc(seed, b[:at])))
	return api.OK
}

// Sealed: is it there?
func Sealed(b []byte, seed uint32) bool {
	at := len(b) - sealSize
	return at >= 0 && get(b, at, sealSize) == uint64(Crc(seed, b[:at]))
}

// Unpack is the numbers of some widths.
func Unpack(b []byte, widths []int) (l []uint64, e api.Errno) {
	defer func() { e = givenUp(recover()) }()
	must(len(b) == total(widths), api.EINVAL)
	return unpack(b, widths), api.OK
}

// Pack is numbers of some widths as bytes.
func Pack(l []uint64, widths []int, size int) (b []byte, e api.Errno) {
	defer func() { e = givenUp(recover()) }()
	must(len(l) == len(widths), api.EINVAL)
	must(total(widths) <= size && size <= maxSize, api.EINVAL)
	return pack(l, widths, size), api.OK
}

func get(b []byte, at, n int) uint64 {
	checkPlace(b, at, n)
	x := uint64(0)
	for i := range n {
		x |= uint64(b[at+i]) << (8 * i)
	}
	return x
}

func put(b []byte, at, n int, x uint64) {
	checkPlace(b, at, n)
	// Of 8 bytes this asks for bits behind the last one: there are none.
	must(x>>(8*n) == 0, api.ERANGE)
	for i := range n {
		b[at+i] = byte(x >> (8 * i))
	}
}

func unpack(b []byte, widths []int) []uint64 {
	l := make([]uint64, len(widths))
	at := 0
	for i, n := range widths {
		l[i] = get(b, at, n)
		at += n
	}
	return l
}

func pack(l []uint64, widths []int, size int) []byte {
	b := make([]byte, size)
	at := 0
	for i, n := range widths {
		put(b, at, n, l[i])
		at += n
	}
	return b
}

// total is how many bytes all widths have.
func total(widths []int) int {
	sum := 0
	for _, n := range widths {
		checkWidth(n)
		sum += n
	}
	return sum
}

func checkWidth(n int) {
	must(1 <= n && n <= maxWidth, api.EINVAL)
}

func checkPlace(b []byte, at, n int) {
	checkWidth(n)
	// at + n could come round; len(b) - n can't.
	must(0 <= at && at <= len(b)-n, api.EINVAL)
}
