package rev_test

import (
	"bytes"
	"testing"

	"terrier/api"
	"terrier/rev"
)

// roomy is a row that has room behind it, in which something stands.
func roomy(b []byte) []byte {
	return append(append(make([]byte, 0, len(b)+60), b...), "t_SPARE ROOM"...)[:len(b)]
}

// spoil writes over a row, the room behind it too.
func spoil(b []byte) {
	b = b[:cap(b)]
	for i := range b {
		b[i] += 0x35
	}
}

// TestBytesAreKept: P10.2, what Decode is handed isn't changed, the room behind it neither; what it told of others isn't told again.
func TestBytesAreKept(t *testing.T) {
	rows := [][]byte{nil, {}, []byte("t"), plain(api.Rev{}, "t"), plain(api.Rev{Main: 5}, "u"), plain(api.Rev{Main: 5}, "tt")}
	for _, r := range samples() {
		rows = append(rows, plain(r, ""), plain(r, "t"), plain(r, "")[:16])
	}
	for _, b := range rows {
		row := roomy(b)
		was := bytes.Clone(row[:cap(row)])
		r, tomb, e := rev.Decode(row)
		if !bytes.Equal(row[:cap(row)], was) {
			t.Fatalf("Decode(% x) has changed what it was handed", b)
		}
		spoil(row)
		rev.Decode(row)
		if again, sign, f := rev.Decode(b); again != r || sign != tomb || f != e {
			t.Fatalf("Decode(% x): %v, %v, %d, then %v, %v, %d", b, r, tomb, e, again, sign, f)
		}
	}
}

// TestBytesAreNew: P10.2, what Encode tells is new each time, with the room behind it.
func TestBytesAreNew(t *testing.T) {
	for _, r := range samples() {
		for _, tomb := range []bool{false, true} {
			first, _ := rev.Encode(r, tomb)
			second, _ := rev.Encode(r, tomb)
			spoil(first)
			if want := plain(r, textOf(tomb)); !bytes.Equal(second, want) {
				t.Fatalf("Encode(%v, %v): two answers share memory", r, tomb)
			}
			mustRight(t, r)
		}
	}
}

// TestLowIsNew: P10.2, what Low tells is new each time, with the room behind it.
func TestLowIsNew(t *testing.T) {
	for _, main := range numbers() {
		first, second := rev.Low(main), rev.Low(main)
		want := bytes.Clone(first)
		spoil(first)
		if !bytes.Equal(second, want) {
			t.Fatalf("Low(%d): two answers share memory", main)
		}
		if again := rev.Low(main); !bytes.Equal(again, want) {
			t.Fatalf("Low(%d): % x, then % x", main, want, again)
		}
	}
}

// TestOneIsNotTheOther: P10.2, what is written into an answer is seen in none of another call.
func TestOneIsNotTheOther(t *testing.T) {
	for _, r := range []api.Rev{{Main: 1}, {Main: maxRev}, {Main: maxRev, Sub: maxRev}} {
		low, high := rev.Low(r.Main), rev.Low(maxRev+1)
		wantLow, wantHigh := bytes.Clone(low), bytes.Clone(high)
		for _, tomb := range []bool{false, true} {
			b, _ := rev.Encode(r, tomb)
			spoil(b)
			if !bytes.Equal(low, wantLow) || !bytes.Equal(high, wantHigh) {
				t.Fatalf("%v: Low's bytes went with Encode's", r)
			}
			mustRight(t, r)
		}
		b, _ := rev.Encode(r, true)
		spoil(low)
		spoil(high)
		if !bytes.Equal(b, plain(r, "t")) {
			t.Fatalf("%v: Encode's bytes went with Low's", r)
		}
		mustRight(t, r)
	}
}
