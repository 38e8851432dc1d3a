package meta_test

import (
	"bytes"
	"encoding/binary"
	"hash/crc32"
	"testing"

	"terrier/api"
	"terrier/meta"
)

// sealed is a row of bytes behind its checksum.
func sealed(body []byte) []byte {
	crc := crc32.Checksum(body, crc32.MakeTable(crc32.Castagnoli))
	return append(binary.BigEndian.AppendUint32(nil, crc), body...)
}

// bodyOf is what is sealed of a meta whose numbers go into their places, right or not, as the chapter's words say it.
func bodyOf(m meta.Meta) []byte {
	body := binary.BigEndian.AppendUint64([]byte{9}, m.Txn)
	body = append(body, "TERR\x01"...)
	for _, n := range []int{m.Root, m.Spare, m.Size} {
		body = binary.BigEndian.AppendUint32(body, uint32(n))
	}
	body = append(body, make([]byte, 218)...)
	return binary.BigEndian.AppendUint64(body, m.Txn)
}

// plain is the bytes of such a meta.
func plain(m meta.Meta) []byte { return sealed(bodyOf(m)) }

// isRight is the chapter's words on a right meta.
func isRight(m meta.Meta) bool {
	root := m.Root == 0 || 2 <= m.Root && m.Root <= m.Size-1
	spare := m.Spare == 0 || 2 <= m.Spare && m.Spare <= m.Size-1
	return root && spare && 8 <= m.Size && m.Size <= 1024
}

// guess is the meta that bytes are of, and whether they are any's.
func guess(b []byte) (meta.Meta, bool) {
	if len(b) != 256 {
		return meta.Meta{}, false
	}
	num := func(at int) int { return int(binary.BigEndian.Uint32(b[at:])) }
	m := meta.Meta{Txn: binary.BigEndian.Uint64(b[5:]), Root: num(18), Spare: num(22), Size: num(26)}
	if !isRight(m) || !bytes.Equal(plain(m), b) {
		return meta.Meta{}, false
	}
	return m, true
}

// samples are right metas of all sorts.
func samples() []meta.Meta {
	return []meta.Meta{
		{Txn: 0, Root: 0, Spare: 0, Size: 8},
		{Txn: 1, Root: 0, Spare: 2, Size: 8},
		{Txn: 2, Root: 2, Spare: 0, Size: 8},
		{Txn: 3, Root: 7, Spare: 7, Size: 8},
		{Txn: 255, Root: 2, Spare: 1023, Size: 1024},
		{Txn: 256, Root: 1023, Spare: 2, Size: 1024},
		{Txn: 1 << 32, Root: 255, Spare: 256, Size: 257},
		{Txn: 0x0102030405060708, Root: 0x0102, Spare: 0x0304, Size: 0x0400},
		{Txn: 1 << 63, Root: 3, Spare: 4, Size: 100},
		{Txn: 1<<64 - 1, Root: 1023, Spare: 1023, Size: 1024},
	}
}

// mustRight asks that a meta is right, has its bytes, and is found again in them.
func mustRight(t *testing.T, what string, m meta.Meta) {
	t.Helper()
	if !meta.Right(m) {
		t.Fatalf("%s: it isn't right: %+v", what, m)
	}
	want := plain(m)
	if b, e := meta.Encode(m); e != api.OK || !bytes.Equal(b, want) {
		t.Fatalf("%s: Encode(%+v): % x, %d; want % x", what, m, b, e, want)
	}
	if got, e := meta.Decode(want); e != api.OK || got != m {
		t.Fatalf("%s: Decode: %+v, %d; want %+v", what, got, e, m)
	}
}

// mustWrong asks that a meta isn't right, and has no bytes.
func mustWrong(t *testing.T, what string, m meta.Meta) {
	t.Helper()
	if meta.Right(m) {
		t.Fatalf("%s: it is right: %+v", what, m)
	}
	if b, e := meta.Encode(m); e != api.ErrForm || len(b) != 0 {
		t.Fatalf("%s: Encode(%+v): % x, %d; want %d", what, m, b, e, api.ErrForm)
	}
}

// mustFail asks that bytes are no meta's, for this reason.
func mustFail(t *testing.T, what string, b []byte, want api.Errno) {
	t.Helper()
	if m, e := meta.Decode(b); e != want || m != (meta.Meta{}) {
		t.Fatalf("%s: Decode(% x): %+v, %d; want %d", what, b, m, e, want)
	}
}

// mustBe asks that a meta is right, or that neither it is nor the bytes that it would have are a meta's.
func mustBe(t *testing.T, what string, m meta.Meta, right bool) {
	t.Helper()
	if right {
		mustRight(t, what, m)
	} else {
		mustWrong(t, what, m)
		mustFail(t, what, plain(m), api.ErrForm)
	}
}

// mustChoose asks for what Choose tells of two pages.
func mustChoose(t *testing.T, what string, zero, one []byte, want meta.Meta) {
	t.Helper()
	if m, e := meta.Choose(zero, one); e != api.OK || m != want {
		t.Fatalf("%s: Choose: %+v, %d; want %+v", what, m, e, want)
	}
}

// mustChooseNone asks that Choose finds no meta.
func mustChooseNone(t *testing.T, what string, zero, one []byte) {
	t.Helper()
	if m, e := meta.Choose(zero, one); e != api.ErrNone || m != (meta.Meta{}) {
		t.Fatalf("%s: Choose: %+v, %d; want %d", what, m, e, api.ErrNone)
	}
}
