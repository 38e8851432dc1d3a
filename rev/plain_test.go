package rev_test

import (
	"bytes"
	"encoding/binary"
	"math"
	"slices"
	"testing"

	"terrier/api"
	"terrier/rev"
)

const maxRev = 4611686018427387904 // 2^62, as the document says

// plain is the bytes that a revision would have, right or not, with a text behind its numbers, as the chapter's words say it.
func plain(r api.Rev, text string) []byte {
	b := binary.BigEndian.AppendUint64(nil, uint64(r.Main))
	b = append(b, '_')
	b = binary.BigEndian.AppendUint64(b, uint64(r.Sub))
	return append(b, text...)
}

// textOf is what stands behind the numbers.
func textOf(tomb bool) string {
	if tomb {
		return "t"
	}
	return ""
}

// isRight is the chapter's words on a right revision.
func isRight(r api.Rev) bool {
	return 1 <= r.Main && r.Main <= maxRev && 0 <= r.Sub && r.Sub <= maxRev
}

// guess is the revision that bytes are of, whether it's a tombstone's, and whether they are any's.
func guess(b []byte) (api.Rev, bool, bool) {
	if len(b) != 17 && len(b) != 18 {
		return api.Rev{}, false, false
	}
	main, sub := binary.BigEndian.Uint64(b), binary.BigEndian.Uint64(b[9:])
	switch {
	case b[8] != '_', len(b) == 18 && b[17] != 't':
		return api.Rev{}, false, false
	case main == 0, main > maxRev, sub > maxRev:
		return api.Rev{}, false, false
	}
	return api.Rev{Main: int64(main), Sub: int64(sub)}, len(b) == 18, true
}

// numbers are all sorts of numbers, rising, the edges among them.
func numbers() []int64 {
	out := []int64{math.MinInt64, math.MinInt64 + 1, -maxRev - 1, -maxRev, -256, -2, -1, 0, 1, 2, 3, '_', 't', 'u', 127, 128, 255, 256, 257}
	for bits := 16; bits < 62; bits += 8 {
		out = append(out, 1<<bits-1, 1<<bits, 1<<bits+1)
	}
	return append(out, 0x0102030405060708, maxRev-1, maxRev, maxRev+1, math.MaxInt64-1, math.MaxInt64)
}

// pairs are all revisions of these numbers.
func pairs(nums []int64) []api.Rev {
	var out []api.Rev
	for _, main := range nums {
		for _, sub := range nums {
			out = append(out, api.Rev{Main: main, Sub: sub})
		}
	}
	return out
}

// samples are right revisions of all sorts, rising.
func samples() []api.Rev {
	return slices.DeleteFunc(pairs(numbers()), func(r api.Rev) bool { return !isRight(r) })
}

// mustRight asks that a revision is right, has its bytes, and is found again in them.
func mustRight(t *testing.T, r api.Rev) {
	t.Helper()
	if !rev.Right(r) {
		t.Fatalf("%v isn't right", r)
	}
	for _, tomb := range []bool{false, true} {
		want := plain(r, textOf(tomb))
		if b, e := rev.Encode(r, tomb); e != api.OK || !bytes.Equal(b, want) {
			t.Fatalf("Encode(%v, %v): % x, %d; want % x", r, tomb, b, e, want)
		}
		if got, sign, e := rev.Decode(want); e != api.OK || got != r || sign != tomb {
			t.Fatalf("Decode(% x): %v, %v, %d; want %v, %v", want, got, sign, e, r, tomb)
		}
	}
}

// mustWrong asks that a revision isn't right, has no bytes, and isn't found in those that it would have.
func mustWrong(t *testing.T, r api.Rev) {
	t.Helper()
	if rev.Right(r) {
		t.Fatalf("%v is right", r)
	}
	for _, tomb := range []bool{false, true} {
		if b, e := rev.Encode(r, tomb); e != api.ErrRange || len(b) != 0 {
			t.Fatalf("Encode(%v, %v): % x, %d; want %d", r, tomb, b, e, api.ErrRange)
		}
		mustFail(t, plain(r, textOf(tomb)))
	}
}

// mustFail asks that bytes are no revision's.
func mustFail(t *testing.T, b []byte) {
	t.Helper()
	if r, tomb, e := rev.Decode(b); e != api.ErrForm || tomb || r != (api.Rev{}) {
		t.Fatalf("Decode(% x): %v, %v, %d; want %d", b, r, tomb, e, api.ErrForm)
	}
}
