package clock_test

import (
	"math"
	"math/rand"
	"slices"
	"testing"

	"hayrick/api"
	"hayrick/clock"
)

// rising are floats as they rise in the chapter's order, each ahead of the next one.
func rising() []float64 {
	l := []float64{math.Inf(-1), -math.MaxFloat64, -0x1p33, -1.5, -1, -0x1p-1022, -math.SmallestNonzeroFloat64, minus}
	return append(l, 0, math.SmallestNonzeroFloat64, 0x1p-1022, 1, math.Nextafter(1, 2), 1.5, 0x1p33, math.MaxFloat64, math.Inf(1), math.NaN())
}

// P11.4: answers that are known without a plain one.
func TestCompareKnown(t *testing.T) {
	l := rising()
	for i, x := range l {
		for k, y := range l {
			want := 0
			if i < k {
				want = -1
			} else if i > k {
				want = 1
			}
			if got := clock.Compare(x, y); got != want {
				t.Errorf("Compare(%x, %x): %d, want %d", x, y, got, want)
			}
		}
	}
	for _, x := range notNumbers {
		for _, y := range notNumbers {
			if got := clock.Compare(x, y); got != 0 {
				t.Errorf("Compare of no numbers, bits %x and %x: %d", math.Float64bits(x), math.Float64bits(y), got)
			}
		}
		for _, y := range l[:len(l)-1] {
			if a, b := clock.Compare(x, y), clock.Compare(y, x); a != 1 || b != -1 {
				t.Errorf("Compare of no number, bits %x, with %x: %d, the other way about: %d", math.Float64bits(x), y, a, b)
			}
		}
	}
}

// P11.4: what the chapter says, of floats of all kinds.
func TestCompare(t *testing.T) {
	draw := rand.New(rand.NewSource(5))
	l, near := floats(6), edges()
	for i, x := range l {
		others := append([]float64{x, -x, l[draw.Intn(len(l))], near[i%len(near)]}, about(x)...)
		for _, y := range others {
			if got, want := clock.Compare(x, y), plainCompare(x, y); got != want {
				t.Errorf("Compare(%x, %x): %d, want %d", x, y, got, want)
			}
		}
	}
}

// P11.5: Compare is an order: each with itself, two either way about, three in a row.
func TestCompareIsAnOrder(t *testing.T) {
	l := edges()
	for _, x := range l {
		if clock.Compare(x, x) != 0 {
			t.Errorf("Compare(%x, %x) is not 0", x, x)
		}
		for _, y := range l {
			xy := clock.Compare(x, y)
			if xy != -clock.Compare(y, x) {
				t.Errorf("Compare(%x, %x) is not the other way about", x, y)
			}
			for _, z := range l {
				if yz, xz := clock.Compare(y, z), clock.Compare(x, z); xy <= 0 && yz <= 0 && xz != min(xy, yz) {
					t.Errorf("Compare goes round: %x, %x, %x: %d %d %d", x, y, z, xy, yz, xz)
				}
			}
		}
	}
}

// P11.5: of times that rise To never falls.
func TestToNeverFalls(t *testing.T) {
	l := times(7)
	slices.Sort(l)
	for i := range len(l) - 1 {
		if x, y := clock.To(l[i]), clock.To(l[i+1]); x > y {
			t.Errorf("To(%d) is %x, To(%d) %x", l[i], x, l[i+1], y)
		}
	}
	// Each one by one, where a float's last bit is much less, about one, and much more than a nanosecond.
	for _, at := range []int64{-5000, 1<<52 - 5000, 1<<53 - 5000, -1<<53 - 5000, 0x1p33*billion - 5000, math.MaxInt64 - 10000, math.MinInt64} {
		for ns := at; ns < at+10000; ns++ {
			if x, y := clock.To(ns), clock.To(ns+1); x > y {
				t.Fatalf("To(%d) is %x, that of the next one %x", ns, x, y)
			}
		}
	}
}

// P11.5: of floats that rise From never falls.
func TestFromNeverFalls(t *testing.T) {
	l := slices.DeleteFunc(floats(8), func(x float64) bool { return math.IsNaN(x) || math.Abs(x) >= 0x1p33 })
	slices.Sort(l)
	last := int64(math.MinInt64)
	for i, x := range l {
		ns, e := clock.From(x)
		if e != api.OK || ns < last {
			t.Errorf("From(%x) is %d %d, that of %x ahead %d", x, ns, e, l[max(i-1, 0)], last)
		}
		last = ns
	}
}

// P11.5: From(To(ns)) is ns, between -2^52 and 2^52.
func TestThereAndBack(t *testing.T) {
	const bound = 1 << 52
	l := times(9)
	for d := int64(1); d <= 5000; d++ {
		l = append(l, bound-d, d-bound, d, -d)
	}
	draw := rand.New(rand.NewSource(10))
	for range 50000 {
		l = append(l, draw.Int63n(2*bound-1)-(bound-1))
	}
	for _, ns := range l {
		if ns <= -bound || ns >= bound {
			continue
		}
		if got, e := clock.From(clock.To(ns)); got != ns || e != api.OK {
			t.Errorf("From(To(%d)): %d %d", ns, got, e)
		}
	}
}
