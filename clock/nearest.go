package clock

import (
	"math"
	"math/bits"
)

const (
	mantissa = 53 // bits of a float's number
	spare    = 28 // by so many bits a number of 64 may rise until its seconds are one of 62 or 63
)

// nanoseconds are an amount of seconds below the limit, nearest.
func nanoseconds(x float64) uint64 {
	part, power := math.Frexp(x)
	number := uint64(math.Ldexp(part, mantissa))
	hi, lo := bits.Mul64(number, 2*second)
	halves, more := cut(hi, lo, mantissa-power)
	whole := halves / 2
	if halves%2 == 1 && (more || whole%2 == 1) {
		whole++
	}
	return whole
}

// cut takes n bits (1 or more) off the end of a number of 128, of which 64 at most are left: these, and whether a bit was set of those taken off.
func cut(hi, lo uint64, n int) (uint64, bool) {
	if n < 64 {
		return hi<<(64-n) | lo>>n, lo<<(64-n) != 0
	}
	n -= 64
	left := hi >> n
	return left, lo != 0 || left<<n != hi
}

// seconds are an amount of nanoseconds, nearest.
func seconds(ns uint64) float64 {
	rise := bits.LeadingZeros64(ns)
	top := ns << rise
	rise += spare
	x, rest := bits.Div64(top>>(64-spare), top<<spare, second)
	if rest != 0 {
		// So that turning x into a float rounds it once, but knows of the rest: the last bit of x stands far behind those of the float.
		x |= 1
	}
	return math.Ldexp(float64(x), -rise)
}
