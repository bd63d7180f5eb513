package clock_test

import (
	"math"
	"math/rand"
	"testing"

	"hayrick/api"
	"hayrick/clock"
)

// P11.1: answers that are known without a plain one, errors among them.
func TestFromKnown(t *testing.T) {
	below := math.Nextafter(0x1p33, 0)
	for _, c := range []struct {
		x  float64
		ns int64
		e  api.Errno
	}{
		{1.5, 1500000000, api.OK},
		{-1.5, -1500000000, api.OK},
		{0.1, 100000000, api.OK},
		{0, 0, api.OK},
		{minus, 0, api.OK},
		{0x1p-31, 0, api.OK}, // 0.4656..
		{-0x1p-31, 0, api.OK},
		{0x1p-30, 1, api.OK}, // 0.9313..
		{0x1p-29, 2, api.OK}, // 1.8626..
		{math.SmallestNonzeroFloat64, 0, api.OK},
		{-math.SmallestNonzeroFloat64, 0, api.OK},
		{0x1p-1022, 0, api.OK},
		// 976562.5 times 1, 3, 5, 7: halfway, to the even one.
		{0x1p-10, 976562, api.OK},
		{0x3p-10, 2929688, api.OK},
		{0x5p-10, 4882812, api.OK},
		{0x7p-10, 6835938, api.OK},
		{-0x1p-10, -976562, api.OK},
		{-0x3p-10, -2929688, api.OK},
		{math.Nextafter(0x1p-10, 1), 976563, api.OK},
		{math.Nextafter(0x3p-10, 0), 2929687, api.OK},
		// Halfway, and far more of them than a float's number tells apart.
		{0x1p32 + 0x1p-10, 4294967296000976562, api.OK},
		{0x1p32 + 0x3p-10, 4294967296002929688, api.OK},
		{0x1p32 + 0x1p-10 + 0x1p-20, 4294967296000977516, api.OK}, // 976562.5 and 953.67..
		{0x1p32, 4294967296000000000, api.OK},
		{below, highest, api.OK},
		{-below, -highest, api.OK},
		{0x1p33, 0, api.ERANGE},
		{-0x1p33, 0, api.ERANGE},
		{math.Nextafter(0x1p33, math.Inf(1)), 0, api.ERANGE},
		{0x1p34, 0, api.ERANGE},
		{1e300, 0, api.ERANGE},
		{math.MaxFloat64, 0, api.ERANGE},
		{-math.MaxFloat64, 0, api.ERANGE},
		{math.Inf(1), 0, api.ERANGE},
		{math.Inf(-1), 0, api.ERANGE},
	} {
		if ns, e := clock.From(c.x); ns != c.ns || e != c.e {
			t.Errorf("From(%x): %d %d, want %d %d", c.x, ns, e, c.ns, c.e)
		}
	}
	for _, x := range notNumbers {
		if ns, e := clock.From(x); ns != 0 || e != api.EINVAL {
			t.Errorf("From of no number, bits %x: %d %d", math.Float64bits(x), ns, e)
		}
	}
}

// P11.1: what the chapter says, of floats of all kinds.
func TestFrom(t *testing.T) {
	for _, x := range floats(1) {
		ns, e := clock.From(x)
		if want, f := plainFrom(x); ns != want || e != f {
			t.Errorf("From(%x): %d %d, want %d %d", x, ns, e, want, f)
		}
	}
}

// P11.2: answers that are known without a plain one.
func TestToKnown(t *testing.T) {
	for _, c := range []struct {
		ns int64
		x  float64
	}{
		{1500000000, 1.5},
		{-1500000000, -1.5},
		{100000000, 0.1},
		{1, 1e-9},
		{-1, -1e-9},
		{999999999, 0.999999999},
		{4294967296000000000, 0x1p32},
		{9007199254740993, 9007199.254740993}, // 2^53 + 1, the first one that is no float itself
		{highest, 8589934591.999999046},
		{math.MaxInt64, 9223372036.854775807},
		{math.MinInt64, -9223372036.854775808},
	} {
		if x := clock.To(c.ns); math.Float64bits(x) != math.Float64bits(c.x) {
			t.Errorf("To(%d): %x, want %x", c.ns, x, c.x)
		}
	}
	if x := clock.To(0); math.Float64bits(x) != 0 {
		t.Errorf("To(0): bits %x", math.Float64bits(x))
	}
}

// P11.2: no float is nearer, for times of all kinds. (Of none two are as near: halfway between two floats there is no whole nanosecond.)
func TestTo(t *testing.T) {
	for _, ns := range times(2) {
		if x := clock.To(ns); !isNearest(ns, x) {
			t.Errorf("To(%d): %x is not the nearest one", ns, x)
		}
	}
}

// P11.3: answers that are known without a plain one, errors among them.
func TestResolveKnown(t *testing.T) {
	for _, c := range []struct {
		x  float64
		ns int64
		e  api.Errno
	}{
		{math.Inf(1), 9, api.OK},
		{math.Inf(-1), 0, api.EINVAL},
		{-1, 0, api.EINVAL},
		{-1e-300, 0, api.EINVAL},
		{-math.SmallestNonzeroFloat64, 0, api.EINVAL},
		{-0x1p33, 0, api.EINVAL}, // ahead of ERANGE
		{-math.MaxFloat64, 0, api.EINVAL},
		{minus, 0, api.OK},
		{0, 0, api.OK},
		{math.SmallestNonzeroFloat64, 0, api.OK},
		{1.5, 1500000000, api.OK},
		{0x3p-10, 2929688, api.OK},
		{math.Nextafter(0x1p33, 0), highest, api.OK},
		{0x1p33, 0, api.ERANGE},
		{math.MaxFloat64, 0, api.ERANGE},
	} {
		if ns, e := clock.Resolve(c.x, 7, 9); ns != c.ns || e != c.e {
			t.Errorf("Resolve(%x, 7, 9): %d %d, want %d %d", c.x, ns, e, c.ns, c.e)
		}
	}
	for _, x := range notNumbers {
		if ns, e := clock.Resolve(x, 7, 9); ns != 7 || e != api.OK {
			t.Errorf("Resolve of no number, bits %x, 7, 9: %d %d", math.Float64bits(x), ns, e)
		}
	}
}

// P11.3: what the chapter says, of floats of all kinds; what stood and what is now are any times.
func TestResolve(t *testing.T) {
	draw := rand.New(rand.NewSource(3))
	stamps := []int64{0, -1, 5, 1500000000, math.MinInt64, math.MaxInt64}
	for _, x := range floats(4) {
		old, now := stamps[draw.Intn(len(stamps))], int64(draw.Uint64())
		ns, e := clock.Resolve(x, old, now)
		if want, f := plainResolve(x, old, now); ns != want || e != f {
			t.Errorf("Resolve(%x, %d, %d): %d %d, want %d %d", x, old, now, ns, e, want, f)
		}
	}
	for _, old := range stamps {
		for _, now := range stamps {
			for _, x := range edges() {
				ns, e := clock.Resolve(x, old, now)
				if want, f := plainResolve(x, old, now); ns != want || e != f {
					t.Errorf("Resolve(%x, %d, %d): %d %d, want %d %d", x, old, now, ns, e, want, f)
				}
			}
		}
	}
}
