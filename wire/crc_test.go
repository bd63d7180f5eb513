package wire_test

import (
	"bytes"
	"testing"

	"hayrick/wire"
)

// plainCrc is the sum as the document tells it, one step after the other.
func plainCrc(seed uint32, b []byte) uint32 {
	c := ^seed
	for _, x := range b {
		c ^= uint32(x)
		for range 8 {
			odd := c%2 == 1
			c /= 2
			if odd {
				c ^= 0x82F63B78
			}
		}
	}
	return ^c
}

// row is n bytes, of which no two next to one another are the same.
func row(n int) []byte {
	b := make([]byte, n)
	for i := range b {
		b[i] = byte(37*i + 11 + i/256)
	}
	return b
}

// P1.1: sums that are known from elsewhere.
func TestCrcKnown(t *testing.T) {
	rising := make([]byte, 32)
	for i := range rising {
		rising[i] = byte(i)
	}
	for _, c := range []struct {
		seed uint32
		b    []byte
		want uint32
	}{
		{0, nil, 0},
		{0, []byte{}, 0},
		{0xDEADBEEF, nil, 0xDEADBEEF},
		{0, []byte("123456789"), 0xE3069283},
		{0, []byte("a"), 0xC1D04330},
		{0, make([]byte, 32), 0x8A9136AA},
		{0, bytes.Repeat([]byte{0xFF}, 32), 0x62A8AB43},
		{0, rising, 0x46DD794E},
	} {
		if got := wire.Crc(c.seed, c.b); got != c.want {
			t.Errorf("Crc(%08X, %x): %08X, want %08X", c.seed, c.b, got, c.want)
		}
	}
}

// P1.1: each byte, behind each of some seeds, and rows of all lengths up to more than a block.
func TestCrcPlain(t *testing.T) {
	seeds := []uint32{0, 1, 2, 255, 256, 0x48595249, 0x7FFFFFFF, 0x80000000, 0x82F63B78, 0xFFFFFFFF}
	for _, seed := range seeds {
		for x := range 256 {
			b := []byte{byte(x)}
			if got, want := wire.Crc(seed, b), plainCrc(seed, b); got != want {
				t.Errorf("Crc(%08X, %x): %08X, want %08X", seed, b, got, want)
			}
		}
		for n := range 300 {
			b := row(n)
			if got, want := wire.Crc(seed, b), plainCrc(seed, b); got != want {
				t.Errorf("Crc(%08X, %d bytes): %08X, want %08X", seed, n, got, want)
			}
		}
	}
}

// P1.1: the seed is the sum of what stands ahead.
func TestCrcGoesOn(t *testing.T) {
	b := row(60)
	whole := wire.Crc(7, b)
	for i := range b {
		if got := wire.Crc(wire.Crc(7, b[:i]), b[i:]); got != whole {
			t.Errorf("parted at %d: %08X, want %08X", i, got, whole)
		}
	}
	if !bytes.Equal(b, row(60)) {
		t.Error("Crc changed what it was given")
	}
}
