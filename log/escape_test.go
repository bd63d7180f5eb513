package log_test

import (
	"bytes"
	"math/rand"
	"testing"

	"hayrick/log"
)

// escapes: does Escape answer these, and Unescape of it what there was, both in new memory?
func escapes(t *testing.T, b, want []byte, escaped bool) {
	t.Helper()
	kept := bytes.Clone(b)
	got, yes := log.Escape(b)
	if !bytes.Equal(got, want) || yes != escaped || !bytes.Equal(b, kept) {
		t.Fatalf("Escape(%x): %x %t", kept, got, yes)
	}
	if bytes.HasPrefix(got, mark) {
		t.Fatalf("Escape(%x) begins with the mark", kept)
	}
	back := log.Unescape(got, yes)
	if !bytes.Equal(back, kept) || !bytes.Equal(got, want) {
		t.Fatalf("Unescape of Escape(%x): %x", kept, back)
	}
	for i := range got {
		got[i]++
	}
	if !bytes.Equal(b, kept) || !bytes.Equal(back, kept) {
		t.Fatalf("Escape(%x) or Unescape of it shares memory", kept)
	}
}

// P7.2, P7.5: bytes of any length, with the mark and without.
func TestEscape(t *testing.T) {
	escapes(t, nil, nil, false)
	escapes(t, append(bytes.Clone(mark), 7, 8, 9), []byte{0, 0, 0, 0, 7, 8, 9}, true)
	for n := range 4 {
		escapes(t, mark[:n:n], mark[:n], false)
		// What lies behind a slice's end is not its own.
		longer := bytes.Clone(mark)
		escapes(t, longer[:n], mark[:n], false)
		if !bytes.Equal(longer, mark) {
			t.Errorf("Escape of %d bytes changed those behind", n)
		}
	}
	for _, n := range []int{4, 5, 11, 255, 256, 257, 5000} {
		b := make([]byte, n)
		escapes(t, b, b, false)
		copy(b, mark)
		escapes(t, b, make([]byte, n), true)
		copy(b, []byte{0x48, 0x59, 0x52, 0x49})
		escapes(t, b, b, false)
	}
	behind := append([]byte{0}, mark...)
	escapes(t, behind, behind, false)
	escapes(t, append(bytes.Clone(mark), mark...), append(make([]byte, 4), mark...), true)
}

// P7.2: no bit of the mark may be another; bits behind it don't count.
func TestEscapeTurned(t *testing.T) {
	for i := range 8 * 256 {
		b := data(5, true)
		b[i/8] ^= 1 << (i % 8)
		if i < 32 {
			escapes(t, b, b, false)
			continue
		}
		escapes(t, b, append(make([]byte, 4), b[4:]...), true)
	}
	draw := rand.New(rand.NewSource(2))
	for range 2000 {
		b := make([]byte, draw.Intn(300))
		draw.Read(b)
		escapes(t, b, b, false)
	}
}

// P7.2: Unescape of any bytes: the mark comes in place of the first four, whatever they are, if it is said and there are four.
func TestUnescape(t *testing.T) {
	for n := range 300 {
		b := bytes.Repeat([]byte{7}, n)
		plain, marked := log.Unescape(b, false), log.Unescape(b, true)
		want := bytes.Clone(b)
		if n >= 4 {
			copy(want, mark)
		}
		if !bytes.Equal(plain, b) || !bytes.Equal(marked, want) {
			t.Fatalf("Unescape of %d bytes: %x %x", n, plain, marked)
		}
		for i := range n {
			plain[i], marked[i] = 1, 2
		}
		if !bytes.Equal(b, bytes.Repeat([]byte{7}, n)) {
			t.Fatalf("Unescape of %d bytes shares memory", n)
		}
	}
	longer := make([]byte, 8)
	if got := log.Unescape(longer[:3], true); !bytes.Equal(got, make([]byte, 3)) || !bytes.Equal(longer, make([]byte, 8)) {
		t.Errorf("Unescape of three bytes: %x; %x", got, longer)
	}
	if len(log.Unescape(nil, true)) != 0 || len(log.Unescape(nil, false)) != 0 {
		t.Error("Unescape of nothing")
	}
	if got := log.Unescape(mark, false); !bytes.Equal(got, mark) {
		t.Errorf("Unescape of the mark: %x", got)
	}
}
