package sum_test

import (
	"bytes"
	"hash/crc32"
	"strings"
	"testing"

	"terrier/sum"
)

// byRule is the checksum bit by bit, as the chapter's words say it.
func byRule(b []byte) uint32 {
	register := uint32(0xffffffff)
	for _, c := range b {
		register ^= uint32(c)
		for range 8 {
			out := register & 1
			register >>= 1
			if out == 1 {
				register ^= 0x82F63B78
			}
		}
	}
	return ^register
}

// mixed is a row of n bytes of many kinds, the same at each call.
func mixed(n int) []byte {
	out := make([]byte, n)
	for i, state := 0, uint32(n)+1; i < n; i++ {
		state = state*1664525 + 1013904223
		out[i] = byte(state >> 24)
	}
	return out
}

// rows are rows of bytes, short and long, of one byte and of many.
func rows() [][]byte {
	out := [][]byte{nil, {}}
	for n := range 40 {
		out = append(out, mixed(n), make([]byte, n), bytes.Repeat([]byte{255}, n))
	}
	return append(out, mixed(237), mixed(252), mixed(256), mixed(5000))
}

// TestSumExamples: P2.1; the first two are the chapter's, the others are known of CRC-32C.
func TestSumExamples(t *testing.T) {
	rising := make([]byte, 32)
	for i := range rising {
		rising[i] = byte(i)
	}
	for _, c := range []struct {
		text string
		want uint32
	}{
		{"123456789", 0xe3069283},
		{"", 0},
		{"a", 0xc1d04330},
		{strings.Repeat("\x00", 32), 0x8a9136aa},
		{strings.Repeat("\xff", 32), 0x62a8ab43},
		{string(rising), 0x46dd794e},
	} {
		if got := sum.Sum([]byte(c.text)); got != c.want {
			t.Errorf("Sum(%q): %08x", c.text, got)
		}
	}
}

// TestSumByRule: P2.1, of every single byte, of every two, and of longer rows.
func TestSumByRule(t *testing.T) {
	ask := func(b []byte) {
		got := sum.Sum(b)
		if got != byRule(b) || got != crc32.Checksum(b, crc32.MakeTable(crc32.Castagnoli)) {
			t.Fatalf("Sum(% x): %08x", b, got)
		}
	}
	for i := range 256 {
		ask([]byte{byte(i)})
		for j := range 256 {
			ask([]byte{byte(i), byte(j)})
		}
	}
	for _, b := range rows() {
		ask(b)
	}
}

// TestSumNoPart: P2.1, the checksum of nothing.
func TestSumNoPart(t *testing.T) {
	if got := sum.Sum(); got != 0 {
		t.Errorf("of no part: %08x", got)
	}
	for _, parts := range [][][]byte{nil, {}, {nil}, {{}}, {nil, {}, nil}, make([][]byte, 100)} {
		if got := sum.Sum(parts...); got != 0 {
			t.Errorf("of %d parts without a byte: %08x", len(parts), got)
		}
	}
}

// TestSumParts: P2.1, a whole is the same wherever it's cut, and whatever empty parts stand between.
func TestSumParts(t *testing.T) {
	for _, b := range [][]byte{[]byte("1"), []byte("123456789"), mixed(24), make([]byte, 6)} {
		want := byRule(b)
		for i := range len(b) + 1 {
			if got := sum.Sum(b[:i], b[i:]); got != want {
				t.Errorf("%q cut at %d: %08x", b, i, got)
			}
			for j := i; j <= len(b); j++ {
				if got := sum.Sum(b[:i], b[i:j], b[j:]); got != want {
					t.Errorf("%q cut at %d and %d: %08x", b, i, j, got)
				}
				if got := sum.Sum(nil, b[:i], []byte{}, nil, b[i:j], nil, b[j:], []byte{}); got != want {
					t.Errorf("%q cut at %d and %d, empty parts between: %08x", b, i, j, got)
				}
			}
		}
		var single [][]byte
		for i := range b {
			single = append(single, b[i:i+1])
		}
		if got := sum.Sum(single...); got != want {
			t.Errorf("%q byte by byte: %08x", b, got)
		}
	}
}

// TestSumPartsInOrder: P2.1, one part behind the other, each of them as often as it's there.
func TestSumPartsInOrder(t *testing.T) {
	a, b := []byte("ab"), []byte("cde")
	for _, c := range []struct {
		parts [][]byte
		whole string
	}{
		{[][]byte{a, b}, "abcde"},
		{[][]byte{b, a}, "cdeab"},
		{[][]byte{a, a}, "abab"},
		{[][]byte{a, b, a}, "abcdeab"},
	} {
		if got := sum.Sum(c.parts...); got != byRule([]byte(c.whole)) {
			t.Errorf("%q: %08x", c.whole, got)
		}
	}
	if sum.Sum(a, b) == sum.Sum(b, a) {
		t.Error("the order is not seen")
	}
}

// TestSumMemory: P2.3.
func TestSumMemory(t *testing.T) {
	room := []byte("abcd spare room")
	list := [][]byte{room[:2], room[2:4], nil, room[4:5], room[5:]}
	sum.Sum(list[:3]...)
	if string(room) != "abcd spare room" {
		t.Errorf("the bytes are changed: %q", room)
	}
	for i, want := range []string{"ab", "cd", "", " ", "spare room"} {
		if string(list[i]) != want {
			t.Errorf("the list is changed at %d: %q", i, list[i])
		}
	}
	b := []byte("12345678")
	sum.Sum(b)
	copy(b, "abcdefgh")
	if got := sum.Sum(b); got != byRule([]byte("abcdefgh")) {
		t.Errorf("what was handed in is kept: %08x", got)
	}
	if got := sum.Sum([]byte("9")); got != byRule([]byte("9")) {
		t.Errorf("it goes on where another call ended: %08x", got)
	}
}
