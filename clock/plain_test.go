package clock_test

import (
	"math"
	"math/big"
	"math/rand"

	"hayrick/api"
)

const (
	billion = 1_000_000_000
	highest = int64(8589934591999999046) // the last float below 2^33 times 10^9, nearest
)

var (
	notNumbers = []float64{
		math.NaN(),
		math.Float64frombits(0x7FF0000000000001), // the least bits above infinity: a signalling one
		math.Float64frombits(0x7FFFFFFFFFFFFFFF),
		math.Float64frombits(0xFFF0000000000001),
		math.Float64frombits(0xFFF8000000000000),
		math.Float64frombits(0xFFFFFFFFFFFFFFFF),
	}
	minus = math.Copysign(0, -1)
)

// about is a float with both its neighbours, and the same below 0.
func about(x float64) []float64 {
	l := []float64{math.Nextafter(x, math.Inf(-1)), x, math.Nextafter(x, math.Inf(1))}
	return append(l, -l[0], -l[1], -l[2])
}

// edges are floats at and about what the chapter names.
func edges() []float64 {
	l := []float64{0, minus, math.Inf(1), math.Inf(-1)}
	l = append(l, notNumbers...)
	// The least, the least that is no subnormal one, the greatest; the limit and what is about it in other units.
	for _, x := range []float64{math.SmallestNonzeroFloat64, 0x1p-1022, math.MaxFloat64, 0x1p33, 0x1p34, 0x1p63, 0x1p64, 1e9, 8589934592e9, 1, 1.5, 0.1, 1e-9} {
		l = append(l, about(x)...)
	}
	return l
}

// floats are the edges, powers of two, halves of a nanosecond (exact ones, and the floats about others), and drawn ones of all bits and of all amounts.
func floats(seed int64) []float64 {
	draw := rand.New(rand.NewSource(seed))
	l := edges()
	for power := -80; power <= 80; power++ {
		l = append(l, about(math.Ldexp(1, power))...)
	}
	for i := range 2000 {
		// An odd number of 1024th parts is 976562.5 nanoseconds times an odd number.
		odd := 2*float64(i) + 1
		l = append(l, about(odd/1024)...)
		l = append(l, about(float64(draw.Int63n(1<<33))+odd/4096)...)
		half := (float64(draw.Int63n(1<<uint(1+draw.Intn(50)))) + 0.5) / billion
		l = append(l, about(half)...)
	}
	for range 20000 {
		l = append(l, math.Float64frombits(draw.Uint64()))
		x := math.Ldexp(1+draw.Float64(), draw.Intn(80)-45)
		l = append(l, x, -x)
	}
	return l
}

// times are whole nanoseconds at and about powers, such whose seconds are near the middle of two floats, and drawn ones of all lengths.
func times(seed int64) []int64 {
	draw := rand.New(rand.NewSource(seed))
	l := []int64{0, math.MinInt64, math.MinInt64 + 1, math.MaxInt64, math.MaxInt64 - 1, 1500000000, highest, highest + 1, 8589934592 * billion}
	both := func(x int64) { l = append(l, x, -x) }
	for n := range 63 {
		for d := int64(-2); d <= 2; d++ {
			both(1<<n + d)
		}
	}
	for n, x := 0, int64(1); n < 19; n, x = n+1, x*10 {
		both(x - 1)
		both(x)
		both(x + 1)
	}
	for power := -30; power <= 33; power++ {
		for range 200 {
			x := math.Ldexp(1+draw.Float64(), power)
			middle := new(big.Rat).Add(exact(x), exact(math.Nextafter(x, math.Inf(1))))
			ns := plainNearest(middle.Mul(middle, big.NewRat(billion, 2)))
			if ns.IsInt64() {
				both(ns.Int64())
				both(ns.Int64() - 1)
				both(ns.Int64() + 1)
			}
		}
	}
	for range 20000 {
		both(draw.Int63() >> uint(draw.Intn(63)))
	}
	return l
}

func exact(x float64) *big.Rat { return new(big.Rat).SetFloat64(x) }

// plainNearest is the whole number that is nearest, of two the even one.
func plainNearest(x *big.Rat) *big.Int {
	below := new(big.Int).Div(x.Num(), x.Denom())
	above := new(big.Int).Add(below, big.NewInt(1))
	rest := new(big.Rat).Sub(x, new(big.Rat).SetInt(below))
	switch rest.Cmp(big.NewRat(1, 2)) {
	case -1:
		return below
	case 1:
		return above
	}
	if below.Bit(0) == 0 {
		return below
	}
	return above
}

// plainFrom is the chapter's word for From, in numbers of any length.
func plainFrom(x float64) (int64, api.Errno) {
	if x != x {
		return 0, api.EINVAL
	}
	if x >= 8589934592 || x <= -8589934592 {
		return 0, api.ERANGE
	}
	return plainNearest(new(big.Rat).Mul(exact(x), big.NewRat(billion, 1))).Int64(), api.OK
}

// plainResolve is the chapter's word for Resolve.
func plainResolve(x float64, old, now int64) (int64, api.Errno) {
	if x != x {
		return old, api.OK
	}
	if x > math.MaxFloat64 {
		return now, api.OK
	}
	if x < 0 {
		return 0, api.EINVAL
	}
	return plainFrom(x)
}

// isNearest: is no other float nearer to ns by 10^9, nor as near with a last bit of 0 where that of x is 1?
func isNearest(ns int64, x float64) bool {
	if ns == 0 {
		return math.Float64bits(x) == 0
	}
	want := big.NewRat(ns, billion)
	away := func(y float64) *big.Rat {
		d := new(big.Rat).Sub(exact(y), want)
		return d.Abs(d)
	}
	for _, to := range []float64{math.Inf(-1), math.Inf(1)} {
		order := away(x).Cmp(away(math.Nextafter(x, to)))
		if order > 0 || order == 0 && math.Float64bits(x)%2 == 1 {
			return false
		}
	}
	return true
}

// plainCompare holds the floats' bits against each other, turned so that they rise as the chapter's order does.
func plainCompare(x, y float64) int {
	a, b := rank(x), rank(y)
	if a < b {
		return -1
	}
	if a > b {
		return 1
	}
	return 0
}

func rank(x float64) uint64 {
	b := math.Float64bits(x)
	switch {
	case b<<1 > 0x7FF0000000000000<<1:
		return math.MaxUint64
	case b>>63 == 1:
		return ^b
	}
	return b | 1<<63
}
