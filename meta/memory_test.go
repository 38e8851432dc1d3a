package meta_test

import (
	"bytes"
	"testing"

	"terrier/api"
	"terrier/meta"
)

// roomy is a row that has room behind it, in which something stands.
func roomy(b []byte) []byte {
	return append(append(make([]byte, 0, len(b)+300), b...), bytes.Repeat([]byte("SPARE"), 60)...)[:len(b)]
}

// spoil writes over a row, the room behind it too.
func spoil(b []byte) {
	b = b[:cap(b)]
	for i := range b {
		b[i] += 0x35
	}
}

// mustKeep asks that a call changes nothing of the rows that it is handed, the room behind them neither.
func mustKeep(t *testing.T, what string, call func(), rows ...[]byte) {
	t.Helper()
	var was [][]byte
	for _, b := range rows {
		was = append(was, bytes.Clone(b[:cap(b)]))
	}
	call()
	for i, b := range rows {
		if !bytes.Equal(b[:cap(b)], was[i]) {
			t.Fatalf("%s has changed what it was handed", what)
		}
	}
}

// TestBytesAreKept: R4, what Decode and Choose are handed isn't changed, nor kept: they tell the same of other bytes, whatever became of these.
func TestBytesAreKept(t *testing.T) {
	for _, zero := range pages() {
		a := roomy(zero)
		m, e := meta.Meta{}, api.OK
		mustKeep(t, "Decode", func() { m, e = meta.Decode(a) }, a)
		spoil(a)
		if again, f := meta.Decode(zero); again != m || f != e {
			t.Fatalf("Decode again: %+v, %d; want %+v, %d", again, f, m, e)
		}
		for _, one := range pages() {
			a, b := roomy(zero), roomy(one)
			mustKeep(t, "Choose", func() { m, e = meta.Choose(a, b) }, a, b)
			spoil(a)
			spoil(b)
			if again, f := meta.Choose(zero, one); again != m || f != e {
				t.Fatalf("Choose again: %+v, %d; want %+v, %d", again, f, m, e)
			}
		}
	}
}

// TestBytesAreNew: R4, what Encode tells is new each time, with the room behind it.
func TestBytesAreNew(t *testing.T) {
	for _, m := range samples() {
		first, _ := meta.Encode(m)
		second, _ := meta.Encode(m)
		spoil(first)
		if !bytes.Equal(second, plain(m)) {
			t.Fatalf("two answers share memory: % x", second)
		}
		mustRight(t, "a sample", m)
	}
}
