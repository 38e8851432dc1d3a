package rev_test

import (
	"bytes"
	"math"
	"math/rand"
	"testing"

	"terrier/api"
	"terrier/rev"
)

// order is the chapter's words on the order of revisions.
func order(a, b api.Rev) int {
	switch {
	case a.Main < b.Main, a.Main == b.Main && a.Sub < b.Sub:
		return -1
	case a == b:
		return 0
	}
	return 1
}

// TestCompareByHand: P10.1, by Main, then by Sub, of any numbers, both ways round.
func TestCompareByHand(t *testing.T) {
	least, greatest := int64(math.MinInt64), int64(math.MaxInt64)
	for _, c := range []struct {
		a, b api.Rev
		want int
	}{
		{api.Rev{Main: 1}, api.Rev{Main: 1}, 0},
		{api.Rev{Main: 1}, api.Rev{Main: 2}, -1},
		{api.Rev{Main: 1, Sub: 9}, api.Rev{Main: 2}, -1},
		{api.Rev{Main: 2, Sub: 1}, api.Rev{Main: 2, Sub: 2}, -1},
		{api.Rev{Main: 2, Sub: 5}, api.Rev{Main: 2, Sub: 2}, 1},
		{api.Rev{Main: 3, Sub: 2}, api.Rev{Main: 2, Sub: 2}, 1},
		{api.Rev{}, api.Rev{}, 0},
		{api.Rev{}, api.Rev{Main: -1}, 1},
		{api.Rev{}, api.Rev{Sub: -1}, 1},
		{api.Rev{Main: least}, api.Rev{Main: greatest}, -1},
		{api.Rev{Main: least}, api.Rev{Main: 1}, -1},
		{api.Rev{Sub: least}, api.Rev{Sub: greatest}, -1},
		{api.Rev{Sub: least}, api.Rev{Sub: 1}, -1},
		{api.Rev{Main: least, Sub: greatest}, api.Rev{Main: least + 1, Sub: least}, -1},
		{api.Rev{Main: greatest, Sub: greatest}, api.Rev{Main: greatest, Sub: greatest}, 0},
		{api.Rev{Main: least, Sub: least}, api.Rev{Main: least, Sub: least}, 0},
		{api.Rev{Main: greatest, Sub: greatest - 1}, api.Rev{Main: greatest, Sub: greatest}, -1},
		{api.Rev{Main: maxRev, Sub: maxRev}, api.Rev{Main: maxRev + 1}, -1},
		{api.Rev{Main: 1 << 32}, api.Rev{Main: 1}, 1},
		{api.Rev{Sub: 1 << 32}, api.Rev{Sub: 1}, 1},
	} {
		if got := rev.Compare(c.a, c.b); got != c.want {
			t.Errorf("Compare(%v, %v): %d", c.a, c.b, got)
		}
		if got := rev.Compare(c.b, c.a); got != -c.want {
			t.Errorf("Compare(%v, %v): %d", c.b, c.a, got)
		}
	}
}

// TestCompare: P10.1, all pairs of all sorts of numbers, right or not.
func TestCompare(t *testing.T) {
	all := pairs(numbers())
	for _, a := range all {
		for _, b := range all {
			if got := rev.Compare(a, b); got != order(a, b) {
				t.Fatalf("Compare(%v, %v): %d", a, b, got)
			}
		}
	}
}

// mustOrder asks that the bytes of two revisions, tombstones or not, come in the order of the revisions; a tombstone's come behind those of the same revision without the sign.
func mustOrder(t *testing.T, a, b api.Rev) {
	t.Helper()
	want := rev.Compare(a, b)
	for i, first := range []bool{false, true} {
		for j, second := range []bool{false, true} {
			x, e := rev.Encode(a, first)
			y, f := rev.Encode(b, second)
			if e != api.OK || f != api.OK {
				t.Fatalf("%v, %v: %d, %d", a, b, e, f)
			}
			bytesWant := want
			if want == 0 {
				bytesWant = i - j
			}
			if got := bytes.Compare(x, y); got != bytesWant {
				t.Fatalf("%v %v and %v %v: their bytes %d; want %d", a, first, b, second, got, bytesWant)
			}
		}
	}
}

// TestBytesInOrder: P10.2.
func TestBytesInOrder(t *testing.T) {
	var all []api.Rev
	for i, r := range samples() {
		if i%3 == 0 || r.Sub < 2 || r.Sub >= maxRev-1 {
			all = append(all, r)
		}
	}
	for _, a := range all {
		for _, b := range all {
			mustOrder(t, a, b)
		}
	}
	few := rand.New(rand.NewSource(11))
	next := func() int64 { return 1 + few.Int63n(maxRev)>>few.Intn(62) }
	for range 50000 {
		a, b := api.Rev{Main: next(), Sub: next() - 1}, api.Rev{Main: next(), Sub: next() - 1}
		mustOrder(t, a, b)
		b.Main = a.Main
		mustOrder(t, a, b)
		b.Sub = a.Sub
		mustOrder(t, a, b)
	}
}

// TestLowByHand: P10.1, at all its ends.
func TestLowByHand(t *testing.T) {
	above := "\x40\x00\x00\x00\x00\x00\x00\x00_\x40\x00\x00\x00\x00\x00\x00\x00u"
	for _, c := range []struct {
		main int64
		want string
	}{
		{math.MinInt64, ""},
		{-maxRev, ""},
		{-1, ""},
		{0, ""},
		{1, "\x00\x00\x00\x00\x00\x00\x00\x01_\x00\x00\x00\x00\x00\x00\x00\x00"},
		{2, "\x00\x00\x00\x00\x00\x00\x00\x02_\x00\x00\x00\x00\x00\x00\x00\x00"},
		{0x0102030405060708, "\x01\x02\x03\x04\x05\x06\x07\x08_\x00\x00\x00\x00\x00\x00\x00\x00"},
		{maxRev - 1, "\x3f\xff\xff\xff\xff\xff\xff\xff_\x00\x00\x00\x00\x00\x00\x00\x00"},
		{maxRev, "\x40\x00\x00\x00\x00\x00\x00\x00_\x00\x00\x00\x00\x00\x00\x00\x00"},
		{maxRev + 1, above},
		{maxRev + 2, above},
		{math.MaxInt64, above},
	} {
		if got := rev.Low(c.main); string(got) != c.want {
			t.Errorf("Low(%d): % x", c.main, got)
		}
	}
}

// TestLow: P10.1, just the bytes of revisions with this Main or a greater one are at or above Low's, and Low's are the least of these.
func TestLow(t *testing.T) {
	for _, main := range numbers() {
		low := rev.Low(main)
		beside := pairs([]int64{main, main - 1, main + 1, 0, 1, maxRev - 1, maxRev}) // at the ends of 64 bits some begin anew
		met := false
		for _, r := range append(samples(), beside...) {
			for _, tomb := range []bool{false, true} {
				b, e := rev.Encode(r, tomb)
				if e != api.OK {
					continue
				}
				if got := bytes.Compare(b, low) >= 0; got != (r.Main >= main) {
					t.Fatalf("Low(%d) and %v, %v: at or above it %v", main, r, tomb, got)
				}
				met = met || bytes.Equal(b, low)
			}
		}
		if right := main >= 1 && main <= maxRev; met != right {
			t.Errorf("Low(%d) is a revision's: %v", main, met)
		}
	}
}
