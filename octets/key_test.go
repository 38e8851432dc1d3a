package octets_test

import (
	"bytes"
	"strings"
	"testing"

	"terrier/octets"
)

// spoil writes over an answer, its spare room too; twice is not as ahead of it.
func spoil(b []byte) {
	b = b[:cap(b)]
	for i := range b {
		b[i] += 0x35
	}
}

// unchanged asks that do changes nothing of what is handed in to it, nor of the spare room behind it.
func unchanged(t *testing.T, text string, do func(b []byte)) {
	t.Helper()
	room := append([]byte(text), "spare room"...)
	do(room[:len(text)])
	if string(room) != text+"spare room" {
		t.Errorf("handed in %q, behind it: %q", text, room)
	}
}

// rows are all rows of up to three bytes of some few, nil first.
func rows() [][]byte {
	few := []byte{0, 1, 'a', 'b', 254, 255}
	out := [][]byte{nil}
	for from, long := 0, 0; long < 3; long++ {
		till := len(out)
		for ; from < till; from++ {
			for _, c := range few {
				out = append(out, append(bytes.Clone(out[from]), c))
			}
		}
	}
	return out
}

// TestCompare: P1.2.
func TestCompare(t *testing.T) {
	for _, c := range []struct {
		a, b string
		want int
	}{
		{"", "", 0},
		{"", "\x00", -1},
		{"a", "a", 0},
		{"a", "b", -1},
		{"a", "aa", -1},
		{"a", "a\x00", -1},
		{"ab", "b", -1},
		{"b", "aaaa", 1},
		{"\x7f", "\x80", -1},
		{"\xff", "\x00", 1},
		{"\xff\xff", "\xff", 1},
	} {
		if got := octets.Compare([]byte(c.a), []byte(c.b)); got != c.want {
			t.Errorf("Compare(%q, %q): %d", c.a, c.b, got)
		}
		if got := octets.Compare([]byte(c.b), []byte(c.a)); got != -c.want {
			t.Errorf("Compare(%q, %q): %d", c.b, c.a, got)
		}
	}
	if octets.Compare(nil, []byte{}) != 0 || octets.Compare([]byte{}, nil) != 0 || octets.Compare(nil, nil) != 0 {
		t.Error("nil and no bytes are the same")
	}
}

// TestCommon: P1.2.
func TestCommon(t *testing.T) {
	for _, c := range []struct {
		a, b string
		want int
	}{
		{"", "", 0},
		{"", "a", 0},
		{"a", "b", 0},
		{"a", "a", 1},
		{"a", "ab", 1},
		{"abc", "abd", 2},
		{"abc", "xbc", 0},
		{"abcd", "abxd", 2},
		{"\x00\x00", "\x00\x00\x00", 2},
	} {
		if got := octets.Common([]byte(c.a), []byte(c.b)); got != c.want {
			t.Errorf("Common(%q, %q): %d", c.a, c.b, got)
		}
		if got := octets.Common([]byte(c.b), []byte(c.a)); got != c.want {
			t.Errorf("Common(%q, %q): %d", c.b, c.a, got)
		}
	}
	if octets.Common(nil, nil) != 0 || octets.Common(nil, []byte("a")) != 0 {
		t.Error("of nil")
	}
}

// TestEnd: P1.2.
func TestEnd(t *testing.T) {
	for _, c := range []struct{ prefix, want string }{
		{"a\xff", "b"},
		{"\xff", "\x00"},
		{"\xff\xff\xff", "\x00"},
		{"", "\x00"},
		{"a", "b"},
		{"\x00", "\x01"},
		{"a\x00", "a\x01"},
		{"\xfe", "\xff"},
		{"\xfe\xff\xff", "\xff"},
		{"\xffa", "\xffb"},
		{"\xffa\xff", "\xffb"},
		{"\x00\xff", "\x01"},
		{"abc", "abd"},
		{strings.Repeat("\xff", 64), "\x00"},
	} {
		if got := octets.End([]byte(c.prefix)); string(got) != c.want {
			t.Errorf("End(%q): %q", c.prefix, got)
		}
	}
	if got := octets.End(nil); string(got) != "\x00" {
		t.Errorf("End(nil): %q", got)
	}
}

// TestIn: P1.2, the three kinds of ends.
func TestIn(t *testing.T) {
	for _, c := range []struct {
		k, key, end string
		want        bool
	}{
		{"a", "a", "", true},
		{"b", "a", "", false},
		{"aa", "a", "", false},
		{"", "a", "", false},
		{"", "", "", true},
		{"\x00", "", "", false},
		{"b", "a", "\x00", true},
		{"a", "a", "\x00", true},
		{"\xff\xff", "a", "\x00", true},
		{"A", "a", "\x00", false},
		{"", "a", "\x00", false},
		{"", "", "\x00", true},
		{"a", "", "\x00", true},
		{"a", "a", "c", true},
		{"b\xff", "a", "c", true},
		{"c", "a", "c", false},
		{"c\x00", "a", "c", false},
		{"A", "a", "c", false},
		{"a", "a", "a", false},
		{"b", "c", "a", false},
		{"c", "c", "a", false},
		{"", "", "\x00\x00", true}, // more than the one byte 0: an end as any other
		{"\x00", "", "\x00\x00", true},
		{"\x00\x00", "", "\x00\x00", false},
		{"a", "", "\x00\x00", false},
		{"", "", "\x01", true},
		{"\x00\x05", "", "\x01", true},
		{"\x01", "", "\x01", false},
	} {
		if got := octets.In([]byte(c.k), []byte(c.key), []byte(c.end)); got != c.want {
			t.Errorf("In(%q, %q, %q): %v", c.k, c.key, c.end, got)
		}
	}
	if !octets.In(nil, nil, nil) || !octets.In([]byte{}, nil, []byte{}) || octets.In([]byte("a"), nil, nil) {
		t.Error("of nil")
	}
}

// TestPrefixIsRange: P1.4, and P1.2: the end is the least key above them all.
func TestPrefixIsRange(t *testing.T) {
	all := rows()
	for _, prefix := range all {
		end := octets.End(prefix)
		for _, k := range all {
			begins := bytes.HasPrefix(k, prefix)
			if len(prefix) > 0 && octets.In(k, prefix, end) != begins {
				t.Errorf("%q, prefix %q, end %q", k, prefix, end)
			}
			above := bytes.Compare(k, prefix) > 0 && !begins
			if above && bytes.Compare(k, end) < 0 {
				t.Errorf("%q is above all that begin with %q, and below the end %q", k, prefix, end)
			}
		}
	}
}

// TestKeysInOrder: P1.2, of all pairs of rows.
func TestKeysInOrder(t *testing.T) {
	all := rows()
	for _, a := range all {
		for _, b := range all {
			if got, want := octets.Compare(a, b), strings.Compare(string(a), string(b)); got != want {
				t.Fatalf("Compare(%q, %q): %d", a, b, got)
			}
			n := octets.Common(a, b)
			if n > len(a) || n > len(b) || !bytes.Equal(a[:n], b[:n]) {
				t.Fatalf("Common(%q, %q): %d", a, b, n)
			}
			if n < len(a) && n < len(b) && a[n] == b[n] {
				t.Fatalf("Common(%q, %q): %d, though more are alike", a, b, n)
			}
		}
	}
}

// TestKeyMemory: P1.5.
func TestKeyMemory(t *testing.T) {
	for _, text := range []string{"", "a", "a\xff", "\xff", "a\xff\xff", "\x00"} {
		unchanged(t, text, func(b []byte) { octets.End(b) })
		unchanged(t, text, func(b []byte) { spoil(octets.End(b)) })
		unchanged(t, text, func(b []byte) { octets.Compare(b, []byte("a")); octets.Compare([]byte("a"), b) })
		unchanged(t, text, func(b []byte) { octets.Common(b, []byte("a")); octets.Common([]byte("a"), b) })
		unchanged(t, text, func(b []byte) { octets.In(b, b, b) })
	}
	for _, text := range []string{"", "\xff", "a", "a\xff"} {
		want := string(octets.End([]byte(text)))
		spoil(octets.End([]byte(text)))
		if got := octets.End([]byte(text)); string(got) != want {
			t.Errorf("End(%q): %q, then %q", text, want, got)
		}
		b := []byte(text)
		end := octets.End(b)
		spoil(b)
		if string(end) != want {
			t.Errorf("End(%q) went with what was handed in: %q", text, end)
		}
	}
}
