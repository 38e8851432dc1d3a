package sum_test

import (
	"bytes"
	"testing"

	"terrier/api"
	"terrier/sum"
)

const head = 4 // bytes of a sealed row ahead of what is sealed

// sealed is the sealed row of b as the chapter's words say it.
func sealed(b []byte) []byte {
	n := byRule(b)
	return append([]byte{byte(n >> 24), byte(n >> 16), byte(n >> 8), byte(n)}, b...)
}

// turned is a row with the bits of mask turned, the lowest of them the bit at of the row; each byte's lowest bit is its first one.
func turned(b []byte, at int, mask uint32) []byte {
	out := bytes.Clone(b)
	for i := range 32 {
		if mask>>i&1 == 1 {
			out[(at+i)/8] ^= 1 << ((at + i) % 8)
		}
	}
	return out
}

// mustSum asks that a row has another checksum, and that nothing is told beside that.
func mustSum(t *testing.T, b []byte) {
	t.Helper()
	if got, e := sum.Open(b); e != api.ErrSum || len(got) != 0 {
		t.Fatalf("Open(% x): % x, %d", b, got, e)
	}
}

// TestSeal: P2.1, the checksum's highest byte first.
func TestSeal(t *testing.T) {
	for _, c := range []struct{ b, want string }{
		{"", "\x00\x00\x00\x00"},
		{"123456789", "\xe3\x06\x92\x83123456789"},
		{"a", "\xc1\xd0\x43\x30a"},
	} {
		if got := sum.Seal([]byte(c.b)); string(got) != c.want {
			t.Errorf("Seal(%q): % x", c.b, got)
		}
	}
	if got := sum.Seal(nil); string(got) != "\x00\x00\x00\x00" {
		t.Errorf("Seal(nil): % x", got)
	}
	for _, b := range rows() {
		if got := sum.Seal(b); !bytes.Equal(got, sealed(b)) {
			t.Errorf("Seal(% x): % x", b, got)
		}
	}
}

// TestOpen: P2.1, of rows that were sealed by the chapter's words.
func TestOpen(t *testing.T) {
	for _, b := range rows() {
		if got, e := sum.Open(sealed(b)); e != api.OK || !bytes.Equal(got, b) {
			t.Errorf("Open of % x sealed: % x, %d", b, got, e)
		}
	}
	if got, e := sum.Open([]byte{0, 0, 0, 0}); e != api.OK || len(got) != 0 {
		t.Errorf("nothing sealed: % x, %d", got, e)
	}
}

// TestOpenShort: P2.1, rows of 0 to 3 bytes, whatever they are, and whatever is in the room behind them.
func TestOpenShort(t *testing.T) {
	if got, e := sum.Open(nil); e != api.ErrShort || len(got) != 0 {
		t.Errorf("nil: % x, %d", got, e)
	}
	whole := sum.Seal([]byte("abc"))
	for n := range head {
		for _, b := range [][]byte{make([]byte, n), make([]byte, n, 32), bytes.Repeat([]byte{255}, n), whole[:n]} {
			if got, e := sum.Open(b); e != api.ErrShort || len(got) != 0 {
				t.Errorf("Open(% x): % x, %d", b, got, e)
			}
		}
	}
}

// TestOpenOtherSum: P2.1, rows that were never sealed, of just four bytes and of more.
func TestOpenOtherSum(t *testing.T) {
	whole := sealed([]byte("123456789"))
	for _, b := range [][]byte{
		{0, 0, 0, 1}, {1, 0, 0, 0}, {255, 255, 255, 255},
		make([]byte, 5), bytes.Repeat([]byte{255}, 5), make([]byte, 256),
		[]byte("\x83\x92\x06\xe3123456789"), // the lowest byte first
		[]byte("\x1c\xf9\x6d\x7c123456789"), // bits not turned at the end
		[]byte("\xcb\xf4\x39\x26123456789"), // a checksum of another rule
		whole[:head],
		whole[:len(whole)-1],
		append(bytes.Clone(whole), 0),
		whole[1:],
	} {
		mustSum(t, b)
	}
}

// TestOpenUndoesSeal: P2.2, also of what is sealed twice.
func TestOpenUndoesSeal(t *testing.T) {
	for _, b := range rows() {
		once := sum.Seal(b)
		if got, e := sum.Open(once); e != api.OK || !bytes.Equal(got, b) {
			t.Errorf("Open of Seal(% x): % x, %d", b, got, e)
		}
		if got, e := sum.Open(sum.Seal(once)); e != api.OK || !bytes.Equal(got, once) {
			t.Errorf("sealed twice: % x, %d", got, e)
		}
	}
}

// masks are turned bits within 32 in a row, the first one always: one, all pairs, all of some few, runs of each length, and mixed ones.
func masks() []uint32 {
	out := []uint32{1, 0xffffffff, 0xaaaaaaab, 0x80000001, 0x82f63b79}
	for i := uint32(1); i < 32; i++ {
		out = append(out, 1|1<<i, 1<<i-1)
	}
	for i := uint32(1); i < 256; i += 2 {
		out = append(out, i)
	}
	for i := range 64 {
		m := mixed(100 + i)
		out = append(out, 1|uint32(m[96])<<24|uint32(m[97])<<16|uint32(m[98])<<8|uint32(m[99]))
	}
	return out
}

// TestTurnedBehind: P2.2, bits of what is sealed, from its first to its last one.
func TestTurnedBehind(t *testing.T) {
	for _, b := range [][]byte{{0}, {'a'}, []byte("ab"), mixed(4), mixed(5), make([]byte, 9), mixed(61)} {
		whole := sum.Seal(b)
		bits := 8 * len(whole)
		for at := 8 * head; at < bits; at++ {
			for _, mask := range masks() {
				if left := bits - at; left < 32 && mask>>left != 0 {
					continue // some of them would be behind the end
				}
				mustSum(t, turned(whole, at, mask))
			}
		}
	}
}

// TestTurnedPage: P2.2, of a long row, at its first bits, at its last ones, and at every byte's first one.
func TestTurnedPage(t *testing.T) {
	whole := sum.Seal(mixed(252))
	bits := 8 * len(whole)
	places := []int{8 * head, 8*head + 1, 8*head + 7, bits - 33, bits - 32}
	for at := 8 * head; at <= bits-32; at += 8 {
		places = append(places, at)
	}
	for _, at := range places {
		for _, mask := range masks() {
			mustSum(t, turned(whole, at, mask))
		}
	}
	for at := bits - 32; at < bits; at++ {
		mustSum(t, turned(whole, at, 1))
	}
}

// TestTurnedChecksum: P2.2, bits of the checksum itself: each one, all pairs, and many.
func TestTurnedChecksum(t *testing.T) {
	for _, b := range [][]byte{nil, {0}, []byte("123456789"), mixed(252)} {
		whole := sum.Seal(b)
		for i := range 32 {
			for j := i; j < 32; j++ {
				mustSum(t, turned(whole, 0, 1<<i|1<<j)) // i == j: one bit
			}
		}
		for _, mask := range masks() {
			for shift := range 32 {
				mustSum(t, turned(whole, 0, mask<<shift|1<<31))
			}
		}
	}
}

// TestSealMemory: P2.3.
func TestSealMemory(t *testing.T) {
	for _, text := range []string{"", "a", "abcd", "abcdefgh"} {
		room := []byte(text + "spare room")
		b := room[:len(text)]
		first, second := sum.Seal(b), sum.Seal(b)
		want := string(sealed([]byte(text)))
		if string(room) != text+"spare room" {
			t.Errorf("Seal changed what is handed in, or the room behind: %q", room)
		}
		spoil(first)
		if string(second) != want || string(room) != text+"spare room" {
			t.Errorf("an answer shares memory: % x, %q", second, room)
		}
		spoil(room)
		if string(second) != want {
			t.Errorf("the answer went with what was handed in: % x", second)
		}
		if got := sum.Seal([]byte(text)); string(got) != want {
			t.Errorf("Seal(%q), then: % x", text, got)
		}
	}
}

// TestOpenMemory: P2.3.
func TestOpenMemory(t *testing.T) {
	for _, text := range []string{"", "a", "abcd", "abcdefgh"} {
		whole := string(sealed([]byte(text)))
		room := []byte(whole + "spare room")
		b := room[:len(whole)]
		first, _ := sum.Open(b)
		second, _ := sum.Open(b)
		if string(room) != whole+"spare room" {
			t.Errorf("Open changed what is handed in, or the room behind: % x", room)
		}
		spoil(first)
		if string(second) != text || string(room) != whole+"spare room" {
			t.Errorf("an answer shares memory: %q, % x", second, room)
		}
		spoil(room)
		if string(second) != text {
			t.Errorf("the answer went with what was handed in: %q", second)
		}
		wrong := []byte("wrong" + text + "spare room")
		sum.Open(wrong[:5+len(text)])
		if string(wrong) != "wrong"+text+"spare room" {
			t.Errorf("Open of another checksum changed what is handed in: %q", wrong)
		}
	}
}

// spoil turns all bits of a row, of its spare room too.
func spoil(b []byte) {
	b = b[:cap(b)]
	for i := range b {
		b[i] = ^b[i]
	}
}
