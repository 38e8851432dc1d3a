package record_test

import (
	"bytes"
	"encoding/binary"
	"math"
	"math/rand"
	"testing"

	"terrier/api"
	"terrier/record"
)

const maxRev = 4611686018427387904 // 2^62, as the document says

// row is n bytes that differ from their neighbours.
func row(n int) []byte {
	b := make([]byte, n)
	for i := range b {
		b[i] = byte(7*i + n + 1)
	}
	return b
}

// kv is a record of texts and numbers.
func kv(key, value string, create, mod, version, lease int64) api.KV {
	return api.KV{Key: []byte(key), Value: []byte(value), Create: create, Mod: mod, Version: version, Lease: lease}
}

// plainHead is the kind, the key's length and the key, right or not, as the chapter's words say it.
func plainHead(kind byte, key []byte) []byte {
	b := binary.BigEndian.AppendUint16([]byte{kind}, uint16(len(key)))
	return append(b, key...)
}

// plain is the bytes that a record would have, right or not.
func plain(x api.KV) []byte {
	b := plainHead(1, x.Key)
	for _, n := range []int64{x.Create, x.Mod, x.Version, x.Lease} {
		b = binary.BigEndian.AppendUint64(b, uint64(n))
	}
	b = binary.BigEndian.AppendUint16(b, uint16(len(x.Value)))
	return append(b, x.Value...)
}

// plainTomb is the bytes that a tombstone with this key would have.
func plainTomb(key []byte) []byte { return plainHead(2, key) }

// isRight is the chapter's words on a right record.
func isRight(x api.KV) bool {
	switch {
	case len(x.Key) == 0, len(x.Key) > 64, len(x.Value) > 1024:
		return false
	case x.Create <= 0, x.Create > maxRev, x.Mod <= 0, x.Mod > maxRev, x.Create > x.Mod:
		return false
	case x.Version <= 0, x.Version > maxRev, x.Lease < 0, x.Lease > maxRev:
		return false
	}
	return true
}

// guess is the record that bytes are of, whether it's a tombstone's, and whether they are any's.
func guess(b []byte) (x api.KV, tomb, ok bool) {
	if len(b) < 3 || b[0] != 1 && b[0] != 2 {
		return
	}
	n := int(binary.BigEndian.Uint16(b[1:]))
	rest := b[3:]
	if n == 0 || n > 64 || n > len(rest) {
		return
	}
	key, rest := rest[:n], rest[n:]
	if b[0] == 2 {
		if len(rest) > 0 {
			return
		}
		return api.KV{Key: key}, true, true
	}
	if len(rest) < 34 || int(binary.BigEndian.Uint16(rest[32:])) != len(rest)-34 {
		return
	}
	var nums [4]int64
	for i := range nums {
		nums[i] = int64(binary.BigEndian.Uint64(rest[8*i:]))
	}
	read := api.KV{Key: key, Value: rest[34:], Create: nums[0], Mod: nums[1], Version: nums[2], Lease: nums[3]}
	if !isRight(read) {
		return
	}
	return read, false, true
}

// alike: are they the same in all, nil and empty rows the same?
func alike(a, b api.KV) bool {
	return string(a.Key) == string(b.Key) && string(a.Value) == string(b.Value) &&
		[4]int64{a.Create, a.Mod, a.Version, a.Lease} == [4]int64{b.Create, b.Mod, b.Version, b.Lease}
}

// none: is every part zero?
func none(x api.KV) bool { return len(x.Key) == 0 && len(x.Value) == 0 && alike(x, api.KV{}) }

// numbers are all sorts of numbers, the edges among them.
func numbers() []int64 {
	out := []int64{math.MinInt64, math.MinInt64 + 1, -maxRev - 1, -maxRev, -256, -2, -1, 0, 1, 2, 127, 128, 255, 256, 257}
	for bits := 16; bits < 62; bits += 8 {
		out = append(out, 1<<bits-1, 1<<bits, 1<<bits+1)
	}
	return append(out, 0x0102030405060708, maxRev-1, maxRev, maxRev+1, maxRev+256, math.MaxInt64-1, math.MaxInt64)
}

// samples are right records of all sorts.
func samples() []api.KV {
	var out []api.KV
	for _, key := range []int{1, 2, 63, 64} {
		for _, value := range []int{0, 1, 2, 255, 256, 1023, 1024} {
			for _, n := range [][4]int64{{1, 1, 1, 0}, {1, 2, 3, 4}, {3, 259, 2, 1}, {maxRev, maxRev, maxRev, maxRev}, {1, maxRev, maxRev - 1, 0}} {
				out = append(out, api.KV{Key: row(key), Value: row(value), Create: n[0], Mod: n[1], Version: n[2], Lease: n[3]})
			}
		}
	}
	return append(out, kv("a", "", 1, 1, 1, 0), kv("\x00", "\x00", 0x0102030405060708, 0x1112131415161718, 0x2122232425262728, 0x3132333435363738))
}

// drawn is any right record.
func drawn(r *rand.Rand) api.KV {
	x := api.KV{Key: make([]byte, 1+r.Intn(64)), Value: make([]byte, r.Intn(1025)>>r.Intn(11))}
	r.Read(x.Key)
	r.Read(x.Value)
	x.Mod = 1 + r.Int63n(maxRev)>>r.Intn(62)
	x.Create = 1 + r.Int63n(x.Mod)
	x.Version = 1 + r.Int63n(maxRev)>>r.Intn(62)
	x.Lease = r.Int63n(maxRev+1) >> r.Intn(62)
	return x
}

// mustRight asks that a record is right, has its bytes, and is found again in them.
func mustRight(t *testing.T, what string, x api.KV) {
	t.Helper()
	if !record.Right(x) {
		t.Fatalf("%s: it isn't right: %v", what, x)
	}
	want := plain(x)
	b, e := record.Encode(x)
	if e != api.OK || !bytes.Equal(b, want) {
		t.Fatalf("%s: Encode: % x, %d; want % x", what, b, e, want)
	}
	if got, tomb, e := record.Decode(b); e != api.OK || tomb || !alike(got, x) {
		t.Fatalf("%s: Decode: %v, %v, %d; want %v", what, got, tomb, e, x)
	}
}

// mustWrong asks that a record isn't right, and has no bytes.
func mustWrong(t *testing.T, what string, x api.KV) {
	t.Helper()
	if record.Right(x) {
		t.Fatalf("%s: it is right: %v", what, x)
	}
	if b, e := record.Encode(x); e != api.ErrForm || len(b) != 0 {
		t.Fatalf("%s: Encode: % x, %d; want %d", what, b, e, api.ErrForm)
	}
}

// mustFail asks that bytes are neither a record's nor a tombstone's.
func mustFail(t *testing.T, what string, b []byte) {
	t.Helper()
	if x, tomb, e := record.Decode(b); e != api.ErrForm || tomb || !none(x) {
		t.Fatalf("%s: Decode(% x): %v, %v, %d; want %d", what, b, x, tomb, e, api.ErrForm)
	}
}

// mustBe asks that a record, whose lengths go into two bytes, is right, or that it is not and that the bytes that it would have are none's.
func mustBe(t *testing.T, what string, x api.KV, right bool) {
	t.Helper()
	if right {
		mustRight(t, what, x)
		return
	}
	mustWrong(t, what, x)
	mustFail(t, what, plain(x))
}

// mustTomb asks that there is a tombstone with this key, and that it is found again.
func mustTomb(t *testing.T, what string, key []byte) {
	t.Helper()
	want := plainTomb(key)
	b, e := record.Tomb(key)
	if e != api.OK || !bytes.Equal(b, want) {
		t.Fatalf("%s: Tomb: % x, %d; want % x", what, b, e, want)
	}
	if x, tomb, e := record.Decode(b); e != api.OK || !tomb || !alike(x, api.KV{Key: key}) {
		t.Fatalf("%s: Decode: %v, %v, %d; want % x", what, x, tomb, e, key)
	}
}

// mustNoTomb asks that there is no tombstone with this key.
func mustNoTomb(t *testing.T, what string, key []byte) {
	t.Helper()
	if b, e := record.Tomb(key); e != api.ErrForm || len(b) != 0 {
		t.Fatalf("%s: Tomb: % x, %d; want %d", what, b, e, api.ErrForm)
	}
}

// mustGuess asks that bytes are what the chapter's words make of them, and tells whether they are any's.
func mustGuess(t *testing.T, what string, b []byte) bool {
	t.Helper()
	want, wantTomb, ok := guess(b)
	if !ok {
		mustFail(t, what, b)
		return false
	}
	if x, tomb, e := record.Decode(b); e != api.OK || tomb != wantTomb || !alike(x, want) {
		t.Fatalf("%s: Decode(% x): %v, %v, %d; want %v, %v", what, b, x, tomb, e, want, wantTomb)
	}
	return true
}
