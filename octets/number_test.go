package octets_test

import (
	"bytes"
	"math"
	"testing"

	"terrier/api"
	"terrier/octets"
)

// badSizes are no number's bytes.
var badSizes = []int{math.MinInt, -1, 0, 9, 16, 64, math.MaxInt}

// TestPut: P1.1, the highest byte first.
func TestPut(t *testing.T) {
	for _, c := range []struct {
		n    uint64
		size int
		want string
	}{
		{258, 3, "\x00\x01\x02"},
		{0, 1, "\x00"},
		{255, 1, "\xff"},
		{256, 2, "\x01\x00"},
		{65535, 2, "\xff\xff"},
		{0, 8, "\x00\x00\x00\x00\x00\x00\x00\x00"},
		{0x0102030405060708, 8, "\x01\x02\x03\x04\x05\x06\x07\x08"},
		{math.MaxUint64, 8, "\xff\xff\xff\xff\xff\xff\xff\xff"},
	} {
		if b, e := octets.Put(c.n, c.size); string(b) != c.want || e != api.OK {
			t.Errorf("Put(%d, %d): % x, %d", c.n, c.size, b, e)
		}
	}
}

// TestPutBounds: P1.1, of each size the greatest number that goes into it, and the next one.
func TestPutBounds(t *testing.T) {
	for size := 1; size <= 8; size++ {
		most := uint64(math.MaxUint64) >> (64 - 8*size)
		b, e := octets.Put(most, size)
		if e != api.OK || !bytes.Equal(b, bytes.Repeat([]byte{255}, size)) {
			t.Errorf("Put(%d, %d): % x, %d", most, size, b, e)
		}
		if size == 8 {
			continue
		}
		for _, n := range []uint64{most + 1, most + 2, math.MaxUint64} {
			if b, e := octets.Put(n, size); len(b) != 0 || e != api.ErrRange {
				t.Errorf("Put(%d, %d): % x, %d", n, size, b, e)
			}
		}
	}
}

// TestPutWrongSize: P1.1, ErrArg comes ahead of ErrRange.
func TestPutWrongSize(t *testing.T) {
	for _, size := range badSizes {
		for _, n := range []uint64{0, 1, 256, math.MaxUint64} {
			if b, e := octets.Put(n, size); len(b) != 0 || e != api.ErrArg {
				t.Errorf("Put(%d, %d): % x, %d", n, size, b, e)
			}
		}
	}
}

// TestGet: P1.1, at all places of a row.
func TestGet(t *testing.T) {
	b := []byte{1, 2, 3, 4, 5, 6, 7, 8, 255}
	for _, c := range []struct {
		at, size int
		want     uint64
	}{
		{0, 1, 1},
		{0, 2, 0x0102},
		{1, 3, 0x020304},
		{0, 8, 0x0102030405060708},
		{1, 8, 0x02030405060708ff},
		{8, 1, 255},
		{7, 2, 0x08ff},
	} {
		if n, e := octets.Get(b, c.at, c.size); n != c.want || e != api.OK {
			t.Errorf("Get(%d, %d): %x, %d", c.at, c.size, n, e)
		}
	}
}

// TestGetShort: P1.1, places below 0, at the end, and behind it.
func TestGetShort(t *testing.T) {
	b := make([]byte, 4, 32) // what is behind the end is none of its bytes
	for _, c := range []struct{ at, size int }{
		{-1, 1}, {-1, 8}, {math.MinInt, 1}, {math.MinInt, 8},
		{4, 1}, {3, 2}, {1, 4}, {0, 5}, {0, 8}, {5, 1}, {100, 1},
		{math.MaxInt, 1}, {math.MaxInt, 8}, {math.MaxInt - 7, 8},
	} {
		if n, e := octets.Get(b, c.at, c.size); n != 0 || e != api.ErrShort {
			t.Errorf("Get(%d, %d): %d, %d", c.at, c.size, n, e)
		}
	}
	if n, e := octets.Get(nil, 0, 1); n != 0 || e != api.ErrShort {
		t.Errorf("of nil: %d, %d", n, e)
	}
	if n, e := octets.Get([]byte{}, 0, 1); n != 0 || e != api.ErrShort {
		t.Errorf("of nothing: %d, %d", n, e)
	}
}

// TestGetWrongSize: P1.1, ErrArg comes ahead of ErrShort.
func TestGetWrongSize(t *testing.T) {
	b := bytes.Repeat([]byte{7}, 100)
	for _, size := range badSizes {
		for _, at := range []int{math.MinInt, -1, 0, 1, 100, math.MaxInt} {
			if n, e := octets.Get(b, at, size); n != 0 || e != api.ErrArg {
				t.Errorf("Get(%d, %d): %d, %d", at, size, n, e)
			}
		}
		if n, e := octets.Get(nil, 0, size); n != 0 || e != api.ErrArg {
			t.Errorf("Get(nil, 0, %d): %d, %d", size, n, e)
		}
	}
}

// numbers are at the ends of all sizes, and between.
func numbers() []uint64 {
	out := []uint64{0, 1, 2, 127, 128, 254, 0x0102030405060708}
	for bits := 8; bits <= 64; bits += 8 {
		most := uint64(math.MaxUint64) >> (64 - bits)
		out = append(out, most-1, most, most+1, most+2, most/2, most/2+1) // of 64 bits some begin anew at 0
	}
	return out
}

// TestGetUndoesPut: P1.4, wherever the bytes stand.
func TestGetUndoesPut(t *testing.T) {
	for size := 1; size <= 8; size++ {
		for _, n := range numbers() {
			b, e := octets.Put(n, size)
			if e != api.OK {
				continue
			}
			if len(b) != size {
				t.Fatalf("Put(%d, %d): % x", n, size, b)
			}
			row := append(append([]byte{9, 9}, b...), 9)
			if got, e := octets.Get(row, 2, size); got != n || e != api.OK {
				t.Errorf("Get of Put(%d, %d): %d, %d", n, size, got, e)
			}
		}
	}
}

// TestNumbersInOrder: P1.4, numbers of one size come in the order of their bytes.
func TestNumbersInOrder(t *testing.T) {
	for size := 1; size <= 8; size++ {
		for _, m := range numbers() {
			for _, n := range numbers() {
				a, e := octets.Put(m, size)
				b, f := octets.Put(n, size)
				if e != api.OK || f != api.OK {
					continue
				}
				if got := octets.Compare(a, b); got < 0 != (m < n) || got > 0 != (m > n) {
					t.Errorf("%d, %d in %d bytes: %d", m, n, size, got)
				}
			}
		}
	}
}

// TestNumberMemory: P1.5.
func TestNumberMemory(t *testing.T) {
	a, _ := octets.Put(258, 3)
	spoil(a)
	if b, _ := octets.Put(258, 3); string(b) != "\x00\x01\x02" {
		t.Errorf("an answer has changed: % x", b)
	}
	unchanged(t, "\x01\x02\x03", func(b []byte) { octets.Get(b, 1, 2) })
}
