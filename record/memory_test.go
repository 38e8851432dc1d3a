package record_test

import (
	"bytes"
	"testing"

	"terrier/api"
	"terrier/record"
)

// roomy is a row that has room behind it, in which something stands.
func roomy(b []byte) []byte {
	return append(append(make([]byte, 0, len(b)+60), b...), "\x00\x01SPARE ROOM"...)[:len(b)]
}

// apart is a record with the same in it, whose rows have room behind them.
func apart(x api.KV) api.KV {
	x.Key, x.Value = roomy(x.Key), roomy(x.Value)
	return x
}

// behind is what stands in a row and in the room behind it.
func behind(b []byte) []byte { return bytes.Clone(b[:cap(b)]) }

// spoil writes over a row, the room behind it too.
func spoil(b []byte) {
	b = b[:cap(b)]
	for i := range b {
		b[i] += 0x35
	}
}

// spoilBoth writes over a record's rows.
func spoilBoth(x api.KV) {
	spoil(x.Key)
	spoil(x.Value)
}

// mustKeep asks that a call changes nothing of the rows that it is handed, the room behind them neither.
func mustKeep(t *testing.T, what string, call func(), rows ...[]byte) {
	t.Helper()
	var was [][]byte
	for _, b := range rows {
		was = append(was, behind(b))
	}
	call()
	for i, b := range rows {
		if !bytes.Equal(behind(b), was[i]) {
			t.Fatalf("%s has changed what it was handed", what)
		}
	}
}

// TestRecordIsKept: P13.2, what Right, Encode, Same and Twin are handed isn't changed, nor kept: what they told stays, and they tell the same of others.
func TestRecordIsKept(t *testing.T) {
	for _, sample := range anyRecords() {
		x, y := apart(sample), apart(sample)
		var b []byte
		var twin api.KV
		mustKeep(t, "Right", func() { record.Right(x) }, x.Key, x.Value)
		mustKeep(t, "Encode", func() { b, _ = record.Encode(x) }, x.Key, x.Value)
		mustKeep(t, "Twin", func() { twin = record.Twin(x) }, x.Key, x.Value)
		mustKeep(t, "Same", func() { record.Same(x, y) }, x.Key, x.Value, y.Key, y.Value)
		spoilBoth(x)
		if isRight(sample) && !bytes.Equal(b, plain(sample)) {
			t.Fatalf("%v: Encode's bytes went with what it was handed", sample)
		}
		if !alike(twin, sample) {
			t.Fatalf("%v: the twin went with it", sample)
		}
		if len(x.Key)+len(x.Value) > 0 && record.Same(x, y) || !record.Same(y, sample) {
			t.Fatalf("%v: Same tells what was", sample)
		}
		if again, _ := record.Encode(sample); !bytes.Equal(again, b) {
			t.Fatalf("%v: Encode: % x, then % x", sample, b, again)
		}
	}
}

// TestKeyIsKept: P13.2, what Tomb is handed isn't changed, nor kept.
func TestKeyIsKept(t *testing.T) {
	for n := range 70 {
		key := roomy(row(n))
		var b []byte
		mustKeep(t, "Tomb", func() { b, _ = record.Tomb(key) }, key)
		was := bytes.Clone(b)
		spoil(key)
		if !bytes.Equal(b, was) {
			t.Fatalf("Tomb's bytes went with the key")
		}
		if again, _ := record.Tomb(row(n)); !bytes.Equal(again, was) {
			t.Fatalf("Tomb: % x, then % x", was, again)
		}
	}
}

// rows are bytes of records and tombstones, and some that are none's.
func rows() [][]byte {
	out := [][]byte{nil, {}, []byte("\x02\x00"), []byte("\x02\x00\x01"), []byte("\x02\x00\x02a"), plainTomb(nil), plainTomb(row(65)), plain(api.KV{})}
	for _, x := range samples() {
		b := plain(x)
		out = append(out, b, plainTomb(x.Key), b[:len(b)-1], append(bytes.Clone(b), 0), append(plainTomb(x.Key), 'a'))
	}
	return out
}

// TestBytesAreKept: P13.2, what Decode is handed isn't changed, nor kept: what it told stays, and it tells the same of others.
func TestBytesAreKept(t *testing.T) {
	for _, sample := range rows() {
		b := roomy(sample)
		var x api.KV
		mustKeep(t, "Decode", func() { x, _, _ = record.Decode(b) }, b)
		want, _, _ := guess(sample)
		spoil(b)
		if !alike(x, want) {
			t.Fatalf("Decode(% x): the record went with the bytes", sample)
		}
		record.Decode(b)
		mustGuess(t, "again", sample)
	}
}

// TestBytesAreNew: P13.2, what Encode and Tomb tell is new each time, with the room behind it.
func TestBytesAreNew(t *testing.T) {
	for _, sample := range samples() {
		x := apart(sample)
		first, _ := record.Encode(x)
		second, _ := record.Encode(x)
		tomb, _ := record.Tomb(x.Key)
		other, _ := record.Tomb(x.Key)
		mustKeep(t, "what is written into an answer", func() { spoil(first); spoil(tomb) }, x.Key, x.Value, second, other)
		if !bytes.Equal(second, plain(sample)) || !bytes.Equal(other, plainTomb(sample.Key)) {
			t.Fatalf("%v: two answers share memory", sample)
		}
		mustRight(t, "again", x)
		mustTomb(t, "again", x.Key)
	}
}

// TestRecordIsNew: P13.2, what Decode tells is new each time: neither row is in the other, in another answer or in the bytes.
func TestRecordIsNew(t *testing.T) {
	for _, sample := range rows() {
		b := roomy(sample)
		first, _, _ := record.Decode(b)
		second, _, _ := record.Decode(b)
		mustKeep(t, "what is written into the key", func() { spoil(first.Key) }, b, first.Value, second.Key, second.Value)
		mustKeep(t, "what is written into the value", func() { spoil(first.Value) }, b, first.Key, second.Key, second.Value)
		mustGuess(t, "again", b)
	}
}

// TestTwinIsNew: P13.2, neither row of a twin is in the other, in another twin or in what it is of, be it that the two rows there are one.
func TestTwinIsNew(t *testing.T) {
	shared := roomy([]byte("shared"))
	some := append(anyRecords(),
		api.KV{Key: shared, Value: shared}, api.KV{Key: shared[:2], Value: shared[2:]},
		api.KV{Key: shared[:0], Value: shared[:0]}, api.KV{Key: shared[:0], Value: shared})
	for _, x := range some {
		mustTwinApart(t, x)
		mustTwinApart(t, apart(x))
	}
}

// mustTwinApart asks it of one record.
func mustTwinApart(t *testing.T, x api.KV) {
	t.Helper()
	first, second := record.Twin(x), record.Twin(x)
	mustKeep(t, "what is written into the key", func() { spoil(first.Key) }, x.Key, x.Value, first.Value, second.Key, second.Value)
	mustKeep(t, "what is written into the value", func() { spoil(first.Value) }, x.Key, x.Value, first.Key, second.Key, second.Value)
	if !alike(second, x) {
		t.Fatalf("%v: two twins share memory", x)
	}
}
