package octets_test

import (
	"math"
	"testing"

	"terrier/api"
	"terrier/octets"
)

// TestReader: P1.3, one thing behind the other.
func TestReader(t *testing.T) {
	r := octets.NewReader([]byte("\x01\x02\x00\x03abcxy\x01\x00\x00\x00\x07\x00\x00\x00\x00\x00\x00\x01\x00"))
	if r.At() != 0 {
		t.Error("at first", r.At())
	}
	if n := r.Num(1); n != 1 || r.At() != 1 {
		t.Error("Num:", n, "at", r.At())
	}
	if b := r.Bytes(1); string(b) != "\x02" || r.At() != 2 {
		t.Errorf("Bytes: %q, at %d", b, r.At())
	}
	if b := r.Text(3); string(b) != "abc" || r.At() != 7 {
		t.Errorf("Text: %q, at %d", b, r.At())
	}
	if b := r.Bytes(0); len(b) != 0 || r.At() != 7 {
		t.Errorf("Bytes(0): %q, at %d", b, r.At())
	}
	if b := r.Bytes(2); string(b) != "xy" || r.At() != 9 {
		t.Errorf("Bytes(2): %q, at %d", b, r.At())
	}
	if !r.Flag() || r.At() != 10 {
		t.Error("Flag: at", r.At())
	}
	if r.Flag() || r.At() != 11 {
		t.Error("Flag: at", r.At())
	}
	if b := r.Text(0); len(b) != 0 || r.At() != 13 {
		t.Errorf("Text(0): %q, at %d", b, r.At())
	}
	if e := r.End(); e != api.ErrLong {
		t.Error("End, ahead of the end:", e)
	}
	if n := r.Num(8); n != 0x0700000000000001 || r.At() != 21 {
		t.Errorf("Num(8): %x, at %d", n, r.At())
	}
	if e := r.End(); e != api.ErrLong {
		t.Error("End, a byte ahead of the end:", e)
	}
	if r.Flag() || r.At() != 22 || r.End() != api.OK {
		t.Error("at the end:", r.At(), r.End())
	}
}

// fault is a call that has an error, behind some bytes that are read well.
type fault struct {
	name  string
	bytes string
	well  int // how many bytes are read ahead of it
	call  func(r *octets.Reader) bool
	want  api.Errno
}

// num, row, text, flag: calls whose answer must be zero.
func num(size int) func(r *octets.Reader) bool {
	return func(r *octets.Reader) bool { return r.Num(size) == 0 }
}
func row(n int) func(r *octets.Reader) bool {
	return func(r *octets.Reader) bool { return len(r.Bytes(n)) == 0 }
}
func text(most int) func(r *octets.Reader) bool {
	return func(r *octets.Reader) bool { return len(r.Text(most)) == 0 }
}
func flag(r *octets.Reader) bool { return !r.Flag() }

// faults are all errors of a reader's calls, at the edges of each.
var faults = []fault{
	{"Num of 0", "abc", 1, num(0), api.ErrArg},
	{"Num of 9", "abcdefghijkl", 1, num(9), api.ErrArg},
	{"Num of -1", "abc", 0, num(-1), api.ErrArg},
	{"Num of the least", "abc", 3, num(math.MinInt), api.ErrArg},
	{"Num of the greatest", "abc", 3, num(math.MaxInt), api.ErrArg},
	{"Num of 0, of nothing", "", 0, num(0), api.ErrArg},
	{"Num of 3 of 2", "abc", 1, num(3), api.ErrShort},
	{"Num at the end", "abc", 3, num(1), api.ErrShort},
	{"Num of nothing", "", 0, num(8), api.ErrShort},
	{"Bytes, one too many", "abc", 1, row(3), api.ErrShort},
	{"Bytes at the end", "abc", 3, row(1), api.ErrShort},
	{"Bytes below 0", "abc", 1, row(-1), api.ErrShort},
	{"Bytes, the least", "abc", 2, row(math.MinInt), api.ErrShort},
	{"Bytes, the greatest", "abc", 2, row(math.MaxInt), api.ErrShort},
	{"Text without a length", "abc", 3, text(9), api.ErrShort},
	{"Text with half a length", "abc\x00", 3, text(9), api.ErrShort},
	{"Text, half a length, most 0", "abc\x09", 3, text(0), api.ErrShort},
	{"Text, a byte too few", "a\x00\x03bc", 1, text(3), api.ErrShort},
	{"Text, none of its bytes", "a\x00\x01", 1, text(1), api.ErrShort},
	{"Text, one above most", "a\x00\x03bcd", 1, text(2), api.ErrLong},
	{"Text, above most and too few", "a\x00\x03bc", 1, text(2), api.ErrLong},
	{"Text, most below 0", "a\x00\x00", 1, text(-1), api.ErrLong},
	{"Text, the least most", "a\x00\x00", 1, text(math.MinInt), api.ErrLong},
	{"Text, its length's high byte", "\x01\x00abc", 0, text(255), api.ErrLong},
	{"Text, its length's high byte, too few", "\x01\x00abc", 0, text(256), api.ErrShort},
	{"Text, the greatest", "\xff\xffabc", 0, text(math.MaxInt), api.ErrShort},
	{"Flag of 2", "ab\x02", 2, flag, api.ErrForm},
	{"Flag of 255", "ab\xff\x01", 2, flag, api.ErrForm},
	{"Flag at the end", "ab", 2, flag, api.ErrShort},
	{"Flag of nothing", "", 0, flag, api.ErrShort},
}

// TestReaderFaults: P1.3, the error, a zero beside it, and the place.
func TestReaderFaults(t *testing.T) {
	for _, f := range faults {
		r := octets.NewReader([]byte(f.bytes))
		r.Bytes(f.well)
		if !f.call(r) {
			t.Error(f.name, "tells something")
		}
		if r.At() != f.well || r.End() != f.want {
			t.Error(f.name, "at", r.At(), "error", int(r.End()))
		}
	}
}

// TestReaderBehindFault: P1.3, behind its first error a reader reads nothing more, and has no other error.
func TestReaderBehindFault(t *testing.T) {
	for _, f := range faults {
		for _, g := range faults {
			r := octets.NewReader([]byte(f.bytes))
			r.Bytes(f.well)
			f.call(r)
			quiet := num(1)(r) && row(0)(r) && row(1)(r) && text(math.MaxInt)(r) && flag(r) && g.call(r)
			if !quiet || r.At() != f.well || r.End() != f.want {
				t.Error(f.name, "then", g.name, "at", r.At(), "error", int(r.End()))
			}
		}
	}
	r := octets.NewReader([]byte("\x01\x01\x01\x01"))
	r.Bytes(-1)
	if r.Num(1) != 0 || len(r.Bytes(1)) != 0 || len(r.Text(257)) != 0 || r.Flag() || r.At() != 0 || r.End() != api.ErrShort {
		t.Error("it goes on reading at", r.At())
	}
}

// TestReaderEnd: P1.3; that there is more is no error that ends the reading.
func TestReaderEnd(t *testing.T) {
	r := octets.NewReader([]byte("\x01\x02"))
	if r.End() != api.ErrLong || r.End() != api.ErrLong || r.At() != 0 {
		t.Error("two bytes left:", r.End())
	}
	if r.Num(2) != 258 || r.End() != api.OK || r.At() != 2 {
		t.Error("End ended it:", r.End(), r.At())
	}
	if r.Num(1) != 0 || r.End() != api.ErrShort {
		t.Error("behind the end:", r.End())
	}
	for _, b := range [][]byte{nil, {}} {
		r := octets.NewReader(b)
		if r.At() != 0 || len(r.Bytes(0)) != 0 || r.End() != api.OK {
			t.Error("of nothing:", r.At(), r.End())
		}
	}
}

// TestReaderText: P1.3, texts that are just as long as they may be.
func TestReaderText(t *testing.T) {
	long := make([]byte, 2+65535)
	long[0], long[1], long[2], long[65536] = 255, 255, 'a', 'z'
	for _, most := range []int{65535, 65536, math.MaxInt} {
		r := octets.NewReader(long)
		if b := r.Text(most); string(b) != string(long[2:]) || r.At() != len(long) || r.End() != api.OK {
			t.Error("most", most, "of", len(b), "at", r.At(), int(r.End()))
		}
	}
	r := octets.NewReader(long)
	if b := r.Text(65534); len(b) != 0 || r.At() != 0 || r.End() != api.ErrLong {
		t.Error("one above:", len(b), r.At(), int(r.End()))
	}
	r = octets.NewReader([]byte("\x00\x01a\x00\x00\x00\x02bc"))
	if a, b, c := r.Text(1), r.Text(0), r.Text(2); string(a) != "a" || len(b) != 0 || string(c) != "bc" || r.End() != api.OK {
		t.Errorf("%q %q %q %d", a, b, c, r.End())
	}
}

// TestNilReader: P1.3.
func TestNilReader(t *testing.T) {
	var r *octets.Reader
	if r.Num(1) != 0 || r.Num(0) != 0 || len(r.Bytes(0)) != 0 || len(r.Bytes(-1)) != 0 || len(r.Text(9)) != 0 || r.Flag() || r.At() != 0 {
		t.Error("it tells something")
	}
	if r.End() != api.ErrArg {
		t.Error("End:", r.End())
	}
}

// TestReaderMemory: P1.5.
func TestReaderMemory(t *testing.T) {
	const all = "\x00\x02abcd\x01\x00\x01e"
	unchanged(t, all, func(b []byte) {
		r := octets.NewReader(b)
		r.Num(1)
		r.Num(1)
		spoil(r.Bytes(4))
		r.Flag()
		spoil(r.Text(1))
	})
	b := []byte(all)
	r := octets.NewReader(b)
	spoil(b)
	first := r.Text(2)
	spoil(first)
	empty := r.Bytes(0)
	spoil(empty)
	if c := r.Bytes(2); string(c) != "cd" {
		t.Errorf("what was handed in is kept, or an answer shares with it: %q", c)
	}
	if !r.Flag() {
		t.Error("the flag has changed")
	}
	last := r.Text(1)
	spoil(r.Bytes(0))
	if string(last) != "e" || r.End() != api.OK {
		t.Errorf("%q, %d", last, r.End())
	}
}

// TestReadersApart: R5, one reader's reading is not another one's.
func TestReadersApart(t *testing.T) {
	b := []byte("ab")
	q, r := octets.NewReader(b), octets.NewReader(b)
	q.Bytes(9)
	if q.End() != api.ErrShort || r.Num(1) != 'a' || r.At() != 1 || q.At() != 0 {
		t.Error(q.At(), q.End(), r.At(), r.End())
	}
}
