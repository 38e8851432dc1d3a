package record_test

import (
	"bytes"
	"encoding/binary"
	"math/rand"
	"slices"
	"testing"

	"terrier/api"
	"terrier/record"
)

// TestExample: P13.1, the chapter's example, and some more by hand.
func TestExample(t *testing.T) {
	for _, c := range []struct{ key, want string }{
		{"a", "\x02\x00\x01\x61"},
		{"\x00", "\x02\x00\x01\x00"},
		{"key", "\x02\x00\x03key"},
	} {
		if b, e := record.Tomb([]byte(c.key)); string(b) != c.want || e != api.OK {
			t.Errorf("Tomb(%q): % x, %d", c.key, b, e)
		}
		x, tomb, e := record.Decode([]byte(c.want))
		if !alike(x, kv(c.key, "", 0, 0, 0, 0)) || !tomb || e != api.OK {
			t.Errorf("Decode(% x): %v, %v, %d", c.want, x, tomb, e)
		}
	}
	zeros := "\x00\x00\x00\x00\x00\x00\x00"
	for _, c := range []struct {
		x    api.KV
		want string
	}{
		{kv("a", "", 1, 1, 1, 0), "\x01\x00\x01a" + zeros + "\x01" + zeros + "\x01" + zeros + "\x01" + zeros + "\x00" + "\x00\x00"},
		{kv("ab", "xyz", 2, 5, 3, 4), "\x01\x00\x02ab" + zeros + "\x02" + zeros + "\x05" + zeros + "\x03" + zeros + "\x04" + "\x00\x03xyz"},
		{
			kv("k", "v", 0x0102030405060708, 0x1112131415161718, 0x2122232425262728, 0x3132333435363738),
			"\x01\x00\x01k\x01\x02\x03\x04\x05\x06\x07\x08\x11\x12\x13\x14\x15\x16\x17\x18\x21\x22\x23\x24\x25\x26\x27\x28\x31\x32\x33\x34\x35\x36\x37\x38\x00\x01v",
		},
	} {
		if b, e := record.Encode(c.x); string(b) != c.want || e != api.OK {
			t.Errorf("Encode(%v): % x, %d", c.x, b, e)
		}
		if x, tomb, e := record.Decode([]byte(c.want)); !alike(x, c.x) || tomb || e != api.OK {
			t.Errorf("Decode(% x): %v, %v, %d", c.want, x, tomb, e)
		}
	}
}

// TestPlaces: P13.1, one bit more in one number is one bit more in its eight bytes, and nowhere else.
func TestPlaces(t *testing.T) {
	start := kv("key", "value", 1, 1<<62-1, 1, 0)
	was, _ := record.Encode(start)
	for i := range 4 {
		for bit := range 62 {
			x := start
			*numberOf(&x, i) ^= 1 << bit
			if !isRight(x) {
				continue
			}
			want := bytes.Clone(was)
			want[1+2+3+8*i+7-bit/8] ^= 1 << (bit % 8)
			if b, e := record.Encode(x); e != api.OK || !bytes.Equal(b, want) {
				t.Fatalf("number %d, bit %d: % x, %d; want % x", i, bit, b, e, want)
			}
			mustRight(t, "a bit more", x)
		}
	}
}

// TestLengthsInBytes: P13.1, the lengths of the key and of the value, and how many bytes there are in all.
func TestLengthsInBytes(t *testing.T) {
	for _, key := range []int{1, 2, 63, 64} {
		for _, value := range []int{0, 1, 255, 256, 257, 1023, 1024} {
			b, _ := record.Encode(api.KV{Key: row(key), Value: row(value), Create: 1, Mod: 1, Version: 1})
			if len(b) != 1+2+key+32+2+value {
				t.Fatalf("%d and %d bytes: %d in all", key, value, len(b))
			}
			if n := binary.BigEndian.Uint16(b[1:]); int(n) != key {
				t.Fatalf("a key of %d bytes: %d", key, n)
			}
			if n := binary.BigEndian.Uint16(b[1+2+key+32:]); int(n) != value {
				t.Fatalf("a value of %d bytes: %d", value, n)
			}
		}
		if b, _ := record.Tomb(row(key)); len(b) != 1+2+key {
			t.Fatalf("a tombstone of %d bytes: %d in all", key, len(b))
		}
	}
}

// TestNoBytes: P13.1.
func TestNoBytes(t *testing.T) {
	mustFail(t, "nil", nil)
	mustFail(t, "empty", []byte{})
	for c := range 256 {
		mustFail(t, "one byte", []byte{byte(c)})
	}
	for _, n := range []int{2, 3, 4, 36, 37, 38, 39, 64, 1125, 1 << 16} {
		mustFail(t, "noughts", make([]byte, n))
		mustFail(t, "ones", bytes.Repeat([]byte{1}, n))
		mustFail(t, "twos", bytes.Repeat([]byte{2}, n))
		mustFail(t, "255s", bytes.Repeat([]byte{255}, n))
	}
}

// TestFirstByte: P13.1, just 1 begins a record's bytes, just 2 a tombstone's.
func TestFirstByte(t *testing.T) {
	for _, x := range samples() {
		b, tomb := plain(x), plainTomb(x.Key)
		for c := range 256 {
			b[0], tomb[0] = byte(c), byte(c)
			if c != 1 {
				mustFail(t, "a record's, another first byte", b)
			}
			if c != 2 {
				mustFail(t, "a tombstone's, another first byte", tomb)
			}
		}
		b[0], tomb[0] = 1, 2
		mustRight(t, "a record's", x)
		mustTomb(t, "a tombstone's", x.Key)
	}
}

// TestCut: P13.1, bytes that end too soon, and such that begin too late; what stands behind the cut is none of them.
func TestCut(t *testing.T) {
	for _, x := range samples() {
		b, tomb := plain(x), plainTomb(x.Key)
		for n := range b {
			mustFail(t, "a record's, cut", b[:n])
		}
		for n := range tomb {
			mustFail(t, "a tombstone's, cut", tomb[:n])
		}
		mustGuess(t, "a record's without the first byte", b[1:])
		mustGuess(t, "a tombstone's without the first byte", tomb[1:])
	}
}

// TestMore: P13.1, bytes that have anything behind them.
func TestMore(t *testing.T) {
	for _, x := range samples() {
		b, tomb := plain(x), plainTomb(x.Key)
		for c := range 256 {
			mustFail(t, "a record's and a byte", slices.Concat(b, []byte{byte(c)}))
			mustFail(t, "a tombstone's and a byte", slices.Concat(tomb, []byte{byte(c)}))
		}
		for n := 1; n < 50; n++ {
			mustFail(t, "a tombstone's and noughts", slices.Concat(tomb, make([]byte, n)))
			mustFail(t, "a record's and noughts", slices.Concat(b, make([]byte, n)))
		}
		for _, behind := range [][]byte{b, tomb, row(8), row(32), row(1024), row(1 << 16)} {
			mustFail(t, "a record's and more", slices.Concat(b, behind))
			mustFail(t, "a tombstone's and more", slices.Concat(tomb, behind))
		}
		rest := b[1+2+len(x.Key):]
		mustFail(t, "a tombstone's and a record's rest", slices.Concat(tomb, rest))
		mustFail(t, "a tombstone's and its numbers", slices.Concat(tomb, rest[:32]))
		mustFail(t, "a nought ahead", slices.Concat([]byte{0}, b))
		mustFail(t, "a nought ahead", slices.Concat([]byte{0}, tomb))
	}
}

// TestKeyLengthLies: P13.1, each other length ahead of the key, be it of too few bytes, of too many, or of more than there are.
func TestKeyLengthLies(t *testing.T) {
	for _, x := range []api.KV{kv("a", "", 1, 1, 1, 0), kv("key", "value", 1, 2, 3, 4), {Key: row(64), Value: row(1024), Create: 1, Mod: 9, Version: 2}} {
		for n := range 1 << 16 {
			if n == len(x.Key) {
				continue
			}
			b, tomb := plain(x), plainTomb(x.Key)
			binary.BigEndian.PutUint16(b[1:], uint16(n))
			binary.BigEndian.PutUint16(tomb[1:], uint16(n))
			mustFail(t, "another length of the key", b)
			mustFail(t, "another length of a tombstone's key", tomb)
		}
	}
	for _, n := range []int{0, 65, 66, 128, 255, 256, 257, 320} { // lengths that are told, but can't be
		x := api.KV{Key: row(n), Value: row(3), Create: 1, Mod: 1, Version: 1}
		mustFail(t, "a key that can't be", plain(x))
		mustFail(t, "a tombstone's key that can't be", plainTomb(row(n)))
	}
}

// TestValueLengthLies: P13.1, each other length ahead of the value, likewise.
func TestValueLengthLies(t *testing.T) {
	for _, x := range []api.KV{kv("a", "", 1, 1, 1, 0), kv("key", "value", 1, 2, 3, 4), {Key: row(64), Value: row(1024), Create: 1, Mod: 9, Version: 2}} {
		at := 1 + 2 + len(x.Key) + 32
		for n := range 1 << 16 {
			if n == len(x.Value) {
				continue
			}
			b := plain(x)
			binary.BigEndian.PutUint16(b[at:], uint16(n))
			mustFail(t, "another length of the value", b)
		}
	}
	for _, n := range []int{1025, 1026, 1280, 2048, 65535} { // lengths that are told, but can't be
		mustFail(t, "a value that can't be", plain(api.KV{Key: row(3), Value: row(n), Create: 1, Mod: 1, Version: 1}))
	}
}

// TestWrongNumbers: P13.1, numbers that no right record has, by hand, those beyond 63 bits too.
func TestWrongNumbers(t *testing.T) {
	zero, one := "\x00\x00\x00\x00\x00\x00\x00\x00", "\x00\x00\x00\x00\x00\x00\x00\x01"
	two, most := "\x00\x00\x00\x00\x00\x00\x00\x02", "\x40\x00\x00\x00\x00\x00\x00\x00"
	above, last := "\x40\x00\x00\x00\x00\x00\x00\x01", "\x7f\xff\xff\xff\xff\xff\xff\xff"
	signed, all := "\x80\x00\x00\x00\x00\x00\x00\x01", "\xff\xff\xff\xff\xff\xff\xff\xff"
	with := func(create, mod, version, lease string) []byte {
		return []byte("\x01\x00\x01a" + create + mod + version + lease + "\x00\x01v")
	}
	for _, c := range []struct {
		what string
		b    []byte
	}{
		{"Create 0", with(zero, one, one, zero)},
		{"Create above Mod", with(two, one, one, zero)},
		{"Create above MaxRev", with(above, above, one, zero)},
		{"Create beyond 63 bits", with(signed, one, one, zero)},
		{"Create of ones", with(all, all, one, zero)},
		{"Mod 0", with(zero, zero, one, zero)},
		{"Mod above MaxRev", with(one, above, one, zero)},
		{"Mod 2^63 - 1", with(one, last, one, zero)},
		{"Mod beyond 63 bits", with(one, signed, one, zero)},
		{"Mod of ones", with(one, all, one, zero)},
		{"Version 0", with(one, one, zero, zero)},
		{"Version above MaxRev", with(one, one, above, zero)},
		{"Version 2^63 - 1", with(one, one, last, zero)},
		{"Version beyond 63 bits", with(one, one, signed, zero)},
		{"Version of ones", with(one, one, all, zero)},
		{"Lease above MaxRev", with(one, one, one, above)},
		{"Lease 2^63 - 1", with(one, one, one, last)},
		{"Lease beyond 63 bits", with(one, one, one, signed)},
		{"Lease of ones", with(one, one, one, all)},
	} {
		mustFail(t, c.what, c.b)
	}
	for _, b := range [][]byte{with(one, one, one, zero), with(one, two, one, one), with(two, two, one, one), with(most, most, most, most), with(one, most, two, zero)} {
		if !mustGuess(t, "right numbers", b) {
			t.Errorf("% x isn't right", b)
		}
	}
}

// TestDrawn: P13.1 and P13.2, Decode undoes Encode and Tomb, of many drawn records.
func TestDrawn(t *testing.T) {
	r := rand.New(rand.NewSource(13))
	for range 20000 {
		x := drawn(r)
		mustRight(t, "a drawn record", x)
		mustTomb(t, "a drawn key", x.Key)
	}
}

// TestAnyBytes: P13.1, of bytes of records and tombstones some are turned, taken away or put between: they are a right one's just if the chapter says so.
func TestAnyBytes(t *testing.T) {
	r := rand.New(rand.NewSource(1313))
	right := 0
	for range 100000 {
		x := drawn(r)
		x.Key, x.Value = x.Key[:min(len(x.Key), 1+r.Intn(6))], x.Value[:min(len(x.Value), r.Intn(6))]
		b := plain(x)
		if r.Intn(3) == 0 {
			b = plainTomb(x.Key)
		}
		for range r.Intn(3) {
			switch at := r.Intn(len(b)); r.Intn(6) {
			case 0:
				b = slices.Delete(b, at, at+1)
			case 1:
				b = slices.Insert(b, at, byte(r.Intn(256)))
			case 2:
				b[r.Intn(min(len(b), 3))] ^= 1 << r.Intn(3)
			default:
				b[at] ^= 1 << r.Intn(8)
			}
		}
		if mustGuess(t, "any bytes", b) {
			right++
		}
	}
	if right < 20000 || right > 80000 {
		t.Errorf("%d of 100000 were right", right)
	}
}

// TestShortRows: P13.1, all rows of up to five bytes out of these eight: just the tombstones of one and of two bytes are any's.
func TestShortRows(t *testing.T) {
	few := []byte{0, 1, 2, 3, 'a', 64, 65, 255}
	right := 0
	for n := range 6 {
		for i := range 1 << (3 * n) {
			b := make([]byte, n)
			for at := range b {
				b[at] = few[i>>(3*at)&7]
			}
			if mustGuess(t, "a short row", b) {
				right++
			}
		}
	}
	if right != 8+64 {
		t.Errorf("%d were right", right)
	}
}
