package meta_test

import (
	"bytes"
	"encoding/binary"
	"math"
	"math/rand"
	"slices"
	"strings"
	"testing"

	"terrier/api"
	"terrier/meta"
)

// TestExampleBytes: P5.1, the chapter's words on a meta's bytes, byte by byte.
func TestExampleBytes(t *testing.T) {
	for _, c := range []struct {
		m           meta.Meta
		first, last string
	}{
		{meta.Meta{Txn: 0x0102030405060708, Root: 0x0102, Spare: 0x0304, Size: 0x0400},
			"\x09" + "\x01\x02\x03\x04\x05\x06\x07\x08" + "TERR" + "\x01" +
				"\x00\x00\x01\x02" + "\x00\x00\x03\x04" + "\x00\x00\x04\x00",
			"\x01\x02\x03\x04\x05\x06\x07\x08"},
		{meta.Meta{Txn: 0, Size: 8},
			"\x09" + strings.Repeat("\x00", 8) + "TERR" + "\x01" + strings.Repeat("\x00", 11) + "\x08",
			strings.Repeat("\x00", 8)},
		{meta.Meta{Txn: 1<<64 - 2, Root: 7, Spare: 2, Size: 9},
			"\x09" + "\xff\xff\xff\xff\xff\xff\xff\xfe" + "TERR" + "\x01" +
				"\x00\x00\x00\x07" + "\x00\x00\x00\x02" + "\x00\x00\x00\x09",
			"\xff\xff\xff\xff\xff\xff\xff\xfe"},
	} {
		noughts := make([]byte, 252-len(c.first)-8)
		want := sealed(slices.Concat([]byte(c.first), noughts, []byte(c.last)))
		if len(want) != 256 || !bytes.Equal(want, plain(c.m)) {
			t.Fatalf("% x; want % x", plain(c.m), want)
		}
		mustRight(t, "an example", c.m)
	}
	b, _ := meta.Encode(meta.Meta{Txn: 5, Root: 3, Spare: 2, Size: 8})
	if len(b) != 256 || b[4] != 9 || b[12] != 5 || string(b[13:18]) != "TERR\x01" || b[21] != 3 || b[25] != 2 || b[29] != 8 || b[255] != 5 {
		t.Errorf("% x", b)
	}
}

// TestRoundTrip: P5.3, Decode undoes Encode.
func TestRoundTrip(t *testing.T) {
	for _, m := range samples() {
		mustRight(t, "a sample", m)
		b, _ := meta.Encode(m)
		if got, e := meta.Decode(b); e != api.OK || got != m {
			t.Errorf("%+v, %d; want %+v", got, e, m)
		}
	}
}

// TestRightPages: P5.1, Root and Spare are 0 or 2 to Size - 1, each whatever the other one is, and they may be the same.
func TestRightPages(t *testing.T) {
	for _, size := range []int{8, 9, 255, 256, 257, 1023, 1024} {
		pages := []int{0, 1, 2, 3, 7, size - 2, size - 1, size, size + 1, 1024, 65536 + 2, 1 << 24, 1 << 31, 1<<32 - 1}
		for _, root := range pages {
			for _, spare := range pages {
				right := (root == 0 || root >= 2 && root < size) && (spare == 0 || spare >= 2 && spare < size)
				mustBe(t, "pages", meta.Meta{Txn: 6, Root: root, Spare: spare, Size: size}, right)
			}
		}
		for _, id := range []int{-1, -2, -size, 1<<32 + 2, 1 << 32, math.MinInt, math.MaxInt} {
			mustWrong(t, "Root", meta.Meta{Txn: 6, Root: id, Size: size})
			mustWrong(t, "Spare", meta.Meta{Txn: 6, Spare: id, Size: size})
			mustWrong(t, "both", meta.Meta{Txn: 6, Root: id, Spare: id, Size: size})
		}
	}
	mustFail(t, "Root -1, as four bytes", plain(meta.Meta{Root: -1, Size: 8}), api.ErrForm)
	mustFail(t, "Spare -1, as four bytes", plain(meta.Meta{Spare: -1, Size: 8}), api.ErrForm)
}

// TestRightSize: P5.1, Size is 8 to 1024.
func TestRightSize(t *testing.T) {
	for size := range 1100 {
		right := size >= 8 && size <= 1024
		mustBe(t, "Size", meta.Meta{Txn: 7, Size: size}, right)
		mustBe(t, "Size", meta.Meta{Txn: 8, Root: 2, Spare: 3, Size: size}, right)
	}
	for _, size := range []int{65536 + 8, 1 << 24, 1<<24 + 8, 1 << 31, 1<<32 - 8, 1<<32 - 1} {
		mustBe(t, "Size", meta.Meta{Txn: 7, Size: size}, false)
	}
	for _, size := range []int{-1, -8, -1024, 1<<32 + 8, math.MinInt, math.MaxInt} {
		mustWrong(t, "Size", meta.Meta{Txn: 7, Size: size})
		mustWrong(t, "Size", meta.Meta{Txn: 7, Root: 2, Spare: 2, Size: size})
	}
	mustBe(t, "nothing", meta.Meta{}, false)
}

// TestTxn: P5.1, Txn is any number.
func TestTxn(t *testing.T) {
	for bit := range 64 {
		for _, txn := range []uint64{1 << bit, 1<<bit - 1, 1<<bit + 1, -(1 << bit)} {
			mustRight(t, "Txn", meta.Meta{Txn: txn, Root: 5, Spare: 6, Size: 10})
			mustWrong(t, "Txn", meta.Meta{Txn: txn, Root: 1, Spare: 6, Size: 10})
		}
	}
}

// TestLength: P5.1, ErrForm: they aren't 256 bytes, whatever they are, ahead of ErrSum.
func TestLength(t *testing.T) {
	mustFail(t, "nil", nil, api.ErrForm)
	mustFail(t, "empty", []byte{}, api.ErrForm)
	for _, m := range samples() {
		b := plain(m)
		for n := range 256 {
			mustFail(t, "shorter", b[:n], api.ErrForm)
			if n >= 4 {
				mustFail(t, "shorter, of this checksum", sealed(b[4:n]), api.ErrForm)
			}
		}
		for _, n := range []int{1, 4, 8, 256} {
			noughts := make([]byte, n)
			mustFail(t, "longer", slices.Concat(b, noughts), api.ErrForm)
			mustFail(t, "longer, of this checksum", sealed(slices.Concat(b[4:], noughts)), api.ErrForm)
			mustFail(t, "longer between", sealed(slices.Concat(b[4:248], noughts, b[248:])), api.ErrForm)
		}
		mustFail(t, "shorter between", sealed(slices.Concat(b[4:247], b[248:])), api.ErrForm)
	}
}

// TestTurnedBit: P5.1, ErrSum: another checksum, ahead of what the bytes are.
func TestTurnedBit(t *testing.T) {
	wrong := meta.Meta{Txn: 4, Root: 1, Spare: 9, Size: 7}
	for _, m := range append(samples(), wrong) {
		b := plain(m)
		for bit := range 8 * 256 {
			b[bit/8] ^= 1 << (bit % 8)
			mustFail(t, "a turned bit", b, api.ErrSum)
			b[bit/8] ^= 1 << (bit % 8)
		}
	}
	mustFail(t, "of no right meta", plain(wrong), api.ErrForm)
	mustFail(t, "noughts", make([]byte, 256), api.ErrSum)
	mustFail(t, "ones", bytes.Repeat([]byte{255}, 256), api.ErrSum)
	mustFail(t, "noughts, sealed", sealed(make([]byte, 252)), api.ErrForm)
	mustFail(t, "ones, sealed", sealed(bytes.Repeat([]byte{255}, 252)), api.ErrForm)
}

// TestOtherByte: P5.1, of each byte another value, sealed anew: it is none's, but where it is a right one's of another Root, Spare or Size.
func TestOtherByte(t *testing.T) {
	for _, m := range samples() {
		body := bodyOf(m)
		for at := range body {
			inPages := at >= 14 && at < 26
			was := body[at]
			for turn := 1; turn < 256; turn++ {
				if at >= 26 && at < 244 && turn&(turn-1) != 0 { // of the noughts one bit at a time will do
					continue
				}
				body[at] = was ^ byte(turn)
				b := sealed(body)
				want, right := guess(b)
				if right && !inPages {
					t.Fatalf("%d at %d of %+v is right", body[at], at, m)
				}
				if right {
					mustRight(t, "another number", want)
				} else {
					mustFail(t, "another byte", b, api.ErrForm)
				}
			}
			body[at] = was
		}
	}
}

// TestWrongMark: P5.1, another word in place of TERR, another number behind it, another kind.
func TestWrongMark(t *testing.T) {
	for _, m := range samples() {
		for _, mark := range []string{"TERR\x00", "TERR\x02", "TERR\xff", "TERR1", "terr\x01", "RRET\x01", "TERS\x01", "\x01TERR", "\x00\x00\x00\x00\x01", "\x00\x00\x00\x00\x00"} {
			body := bodyOf(m)
			copy(body[9:], mark)
			mustFail(t, "another mark", sealed(body), api.ErrForm)
		}
		for _, kind := range []byte{0, 1, 2, 3, 4, 8, 10, 9 + 128, 255} {
			body := bodyOf(m)
			body[0] = kind
			mustFail(t, "another kind", sealed(body), api.ErrForm)
		}
	}
}

// TestTwoTxns: P5.1, the two numbers Txn are the same.
func TestTwoTxns(t *testing.T) {
	for _, m := range samples() {
		for bit := range 64 {
			other := m
			other.Txn ^= 1 << bit
			body := bodyOf(m)
			copy(body[1:9], bodyOf(other)[1:9])
			mustFail(t, "another Txn ahead", sealed(body), api.ErrForm)
			copy(body[244:], bodyOf(other)[244:])
			if got, e := meta.Decode(sealed(body)); e != api.OK || got != other {
				t.Fatalf("another Txn: %+v, %d; want %+v", got, e, other)
			}
			body = bodyOf(m)
			copy(body[244:], bodyOf(other)[244:])
			mustFail(t, "another Txn at the end", sealed(body), api.ErrForm)
		}
	}
}

// TestMixed: P5.1, a page of which the first bytes are of one meta and the rest of another one is neither, be its checksum right.
func TestMixed(t *testing.T) {
	for _, a := range samples() {
		for _, b := range samples() {
			first, rest := bodyOf(a), bodyOf(b)
			for n := range 253 {
				body := slices.Concat(first[:n], rest[n:])
				if bytes.Equal(body, first) || bytes.Equal(body, rest) {
					continue
				}
				mustFail(t, "of two metas", sealed(body), api.ErrForm)
				mustFail(t, "of two metas, of the one's checksum", slices.Concat(plain(a)[:4], body), api.ErrSum)
			}
		}
	}
}

// TestUnlike: P5.3, unlike metas have unlike bytes.
func TestUnlike(t *testing.T) {
	told := map[string]meta.Meta{}
	for _, txn := range []uint64{0, 1, 2, 255, 256, 512, 1 << 16, 1 << 32, 1 << 56, 1 << 63, 1<<64 - 1} {
		for _, size := range []int{8, 9, 255, 256, 257, 512, 1024} {
			for _, root := range []int{0, 2, 3, 7, size - 1} {
				for _, spare := range []int{0, 2, 3, 7, size - 1} {
					m := meta.Meta{Txn: txn, Root: root, Spare: spare, Size: size}
					b, e := meta.Encode(m)
					if other, ok := told[string(b)]; e != api.OK || ok && other != m {
						t.Fatalf("%+v and %+v: % x, %d", m, other, b, e)
					}
					told[string(b)] = m
				}
			}
		}
	}
}

// TestAnyBytes: P5.1 and P5.3, bytes of metas of which some were written over, sealed anew: they are a right one's just if its bytes are they.
func TestAnyBytes(t *testing.T) {
	r := rand.New(rand.NewSource(5))
	right := 0
	for range 40000 {
		m := meta.Meta{Txn: r.Uint64() >> r.Intn(64), Root: r.Intn(20), Spare: r.Intn(20), Size: 6 + r.Intn(20)}
		if r.Intn(3) == 0 {
			m.Size = 1000 + r.Intn(40)
		}
		mustBe(t, "any meta", m, isRight(m))
		body := bodyOf(m)
		for range r.Intn(3) {
			binary.BigEndian.PutUint16(body[r.Intn(251):], uint16(r.Intn(1<<16)>>r.Intn(16)))
		}
		want, ok := guess(sealed(body))
		if !ok {
			mustFail(t, "any bytes", sealed(body), api.ErrForm)
			continue
		}
		mustRight(t, "any bytes", want)
		right++
	}
	if right < 5000 || right > 35000 {
		t.Errorf("%d of 40000 were right", right)
	}
}
