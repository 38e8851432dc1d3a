// Package octets: numbers as bytes, and keys as bytes (chapter 1).
package octets

import (
	"bytes"

	"terrier/api"
)

const (
	widest     = 8   // bytes of the widest number
	lengthSize = 2   // bytes of a text's length
	top        = 255 // the greatest byte
)

// Put: a number in so many bytes.
func Put(n uint64, size int) ([]byte, api.Errno) {
	if !canSize(size) {
		return nil, api.ErrArg
	}
	if n>>(8*size) != 0 {
		return nil, api.ErrRange
	}
	out := make([]byte, size)
	for i := range size {
		out[size-1-i] = byte(n >> (8 * i))
	}
	return out, api.OK
}

// Get: the number at a place.
func Get(b []byte, at, size int) (uint64, api.Errno) {
	if !canSize(size) {
		return 0, api.ErrArg
	}
	if !holds(b, at, size) {
		return 0, api.ErrShort
	}
	n := uint64(0)
	for i := range size {
		n = n<<8 | uint64(b[at+i])
	}
	return n, api.OK
}

// canSize: may a number have so many bytes?
func canSize(size int) bool { return size >= 1 && size <= widest }

// holds: are there n bytes from the place at on? The lengths are subtracted, as the sum of at and n may be beyond an int.
func holds(b []byte, at, n int) bool {
	return at >= 0 && n >= 0 && n <= len(b)-at
}

// Compare: by the order of keys.
func Compare(a, b []byte) int { return bytes.Compare(a, b) }

// Common: how many bytes from the front are alike.
func Common(a, b []byte) int {
	shorter := min(len(a), len(b))
	for i := range shorter {
		if a[i] != b[i] {
			return i
		}
	}
	return shorter
}

// End: the end of the range of all keys that begin with these bytes.
func End(prefix []byte) []byte {
	for i := range len(prefix) {
		last := len(prefix) - 1 - i
		if prefix[last] != top {
			out := bytes.Clone(prefix[:last+1])
			out[last]++
			return out
		}
	}
	return []byte{0}
}

// In: is a key in a range?
func In(k, key, end []byte) bool {
	if len(end) == 0 {
		return Compare(k, key) == 0
	}
	return Compare(k, key) >= 0 && (endless(end) || Compare(k, end) < 0)
}

// endless: is it the end of a range that has all keys behind its first one?
func endless(end []byte) bool { return len(end) == 1 && end[0] == 0 }

// Reader reads one thing behind the other.
type Reader struct {
	b   []byte
	at  int
	err api.Errno
}

// NewReader: one at the beginning of these bytes.
func NewReader(b []byte) *Reader { return &Reader{b: bytes.Clone(b)} }

// stopped: does it read nothing more?
func (r *Reader) stopped() bool { return r == nil || r.err != api.OK }

// Num: a number.
func (r *Reader) Num(size int) uint64 {
	if r.stopped() {
		return 0
	}
	n, err := Get(r.b, r.at, size)
	if err != api.OK {
		r.err = err
		return 0
	}
	r.at += size
	return n
}

// Bytes: so many bytes.
func (r *Reader) Bytes(n int) []byte {
	if r.stopped() {
		return nil
	}
	if !holds(r.b, r.at, n) {
		r.err = api.ErrShort
		return nil
	}
	out := bytes.Clone(r.b[r.at : r.at+n])
	r.at += n
	return out
}

// Text: a length and so many bytes.
func (r *Reader) Text(most int) []byte {
	if r.stopped() {
		return nil
	}
	begin := r.at
	n := int(r.Num(lengthSize))
	if r.err == api.OK && n > most {
		r.err = api.ErrLong
	}
	out := r.Bytes(n)
	if r.err != api.OK { // the text begins at its length
		r.at = begin
	}
	return out
}

// Flag: yes or no.
func (r *Reader) Flag() bool {
	if r.stopped() {
		return false
	}
	n, err := Get(r.b, r.at, 1)
	if err == api.OK && n > 1 {
		err = api.ErrForm
	}
	if err != api.OK {
		r.err = err
		return false
	}
	r.at++
	return n == 1
}

// At: the place.
func (r *Reader) At() int {
	if r == nil {
		return 0
	}
	return r.at
}

// End: the first error, or that there is more.
func (r *Reader) End() api.Errno {
	switch {
	case r == nil:
		return api.ErrArg
	case r.err != api.OK:
		return r.err
	case r.at < len(r.b):
		return api.ErrLong
	}
	return api.OK
}
