package page_test

import (
	"bytes"
	"slices"
	"strings"
	"testing"

	"terrier/api"
	"terrier/page"
)

// row is a page's bytes with what stands in its first ones.
func row(first string) []byte {
	return sealed(append([]byte(first), make([]byte, 252-len(first))...))
}

// samples are right pages of all kinds.
func samples() []page.Page {
	out := append(one(), full()...)
	return append(out, spare(),
		leaf(short("", "")), leaf(short("a", ""), long("b", 65, 1), short("c", "xyz"), long("d", 4096, 1023)),
		branch(kid("", 1), kid("m", 1023)),
		page.Page{Kind: page.Piece, Txn: 1<<64 - 1, Next: 1023, Data: []byte{0}},
		page.Page{Kind: page.Spare, Txn: 1 << 40, Next: 1, IDs: []int{1, 2, 1023}},
	)
}

// TestExampleBytes: P4.1, the chapter's table, byte by byte, of each kind; example 1.
func TestExampleBytes(t *testing.T) {
	txn := "\x01\x02\x03\x04\x05\x06\x07\x08"
	const number = 0x0102030405060708
	for _, c := range []struct {
		p     page.Page
		first string
	}{
		{page.Page{Kind: page.Leaf, Items: []page.Item{short("a", "x")}},
			"\x01" + strings.Repeat("\x00", 12) + "\x00\x01" + "\x01\x00\x01ax"},
		{page.Page{Kind: page.Leaf, Txn: number, Items: []page.Item{short("a", ""), long("bc", 0x0203, 0x0304)}},
			"\x01" + txn + "\x00\x00\x00\x00" + "\x00\x02" + "\x01\x00\x00a" + "\x02\x02\x03bc\x00\x00\x03\x04"},
		{page.Page{Kind: page.Branch, Txn: number, Kids: []page.Kid{kid("", 0x0102), kid("xyz", 0x0305)}},
			"\x02" + txn + "\x00\x00\x00\x00" + "\x00\x02" + "\x00\x00\x00\x01\x02" + "\x03xyz\x00\x00\x03\x05"},
		{page.Page{Kind: page.Piece, Txn: number, Next: 0x0201, Data: []byte("some bytes")},
			"\x03" + txn + "\x00\x00\x02\x01" + "\x00\x0a" + "some bytes"},
		{page.Page{Kind: page.Spare, Txn: number, Next: 0x03ff, IDs: []int{1, 0x0203, 0x0301}},
			"\x04" + txn + "\x00\x00\x03\xff" + "\x00\x03" + "\x00\x00\x00\x01\x00\x00\x02\x03\x00\x00\x03\x01"},
		{page.Page{Kind: page.Spare}, "\x04"},
	} {
		want := row(c.first)
		sameBytes(t, "an example", c.p, want)
		if len(want) != 256 {
			t.Fatal(len(want))
		}
		if p, e := page.Decode(want); e != api.OK || !same(p, c.p) {
			t.Errorf("Decode: %+v, %d; want %+v", p, e, c.p)
		}
	}
	b, _ := page.Encode(leaf(short("a", "x")))
	if !bytes.Equal(b[19:24], []byte{1, 0, 1, 0x61, 0x78}) {
		t.Errorf("its room begins % x", b[19:24])
	}
}

// TestRoundTrip: P4.2, Decode undoes Encode, and Encode Decode.
func TestRoundTrip(t *testing.T) {
	for _, p := range samples() {
		mustRight(t, "a sample", p)
		b, _ := page.Encode(p)
		q, _ := page.Decode(b)
		sameBytes(t, "again", q, b)
	}
}

// TestLength: P4.1, ErrForm: they aren't 256 bytes, whatever they are, ahead of ErrSum.
func TestLength(t *testing.T) {
	mustFail(t, "nil", nil, api.ErrForm)
	mustFail(t, "empty", []byte{}, api.ErrForm)
	for _, p := range samples() {
		b := plain(p)
		for n := range 256 {
			mustFail(t, "shorter", b[:n], api.ErrForm)
			mustFail(t, "shorter, of this checksum", sealed(b[4:4+max(n-4, 0)]), api.ErrForm)
		}
		for _, n := range []int{1, 4, 256} {
			mustFail(t, "longer", append(slices.Clone(b), make([]byte, n)...), api.ErrForm)
			mustFail(t, "longer, of this checksum", sealed(append(slices.Clone(b[4:]), make([]byte, n)...)), api.ErrForm)
		}
	}
}

// TestTurnedBit: P4.1, ErrSum: another checksum, ahead of what the bytes are.
func TestTurnedBit(t *testing.T) {
	for _, p := range samples() {
		b := plain(p)
		for bit := range 8 * 256 {
			b[bit/8] ^= 1 << (bit % 8)
			mustFail(t, "a turned bit", b, api.ErrSum)
			b[bit/8] ^= 1 << (bit % 8)
		}
	}
	mustFail(t, "noughts", make([]byte, 256), api.ErrSum)
	wrong := plain(page.Page{Kind: 9, Data: text(20, 1)})
	mustFail(t, "of no kind", wrong, api.ErrForm)
	wrong[0] ^= 1
	mustFail(t, "of no kind, with another checksum", wrong, api.ErrSum)
}

// TestWrongKind: P4.1, sealed anew with each other kind: ErrForm, but where the same bytes are right of it.
func TestWrongKind(t *testing.T) {
	for _, p := range samples() {
		body := plain(p)[4:]
		for kind := range 256 {
			body[0] = byte(kind)
			q, e := page.Decode(sealed(body))
			switch {
			case kind == p.Kind:
				if e != api.OK || !same(p, q) {
					t.Errorf("kind %d: %+v, %d", kind, q, e)
				}
			case e == api.OK:
				if q.Kind != kind || same(p, q) {
					t.Errorf("kind %d: %+v", kind, q)
				}
				sameBytes(t, "of another kind", q, sealed(body))
			default:
				mustFail(t, "of another kind", sealed(body), api.ErrForm)
			}
		}
		body[0] = 0
		mustFail(t, "of kind 0", sealed(body), api.ErrForm)
		body[0] = 5
		mustFail(t, "of kind 5", sealed(body), api.ErrForm)
	}
	mustFail(t, "noughts, sealed", sealed(make([]byte, 252)), api.ErrForm)
}

// TestWrongCount: P4.1, sealed anew with each other count. A Piece's may be greater: what is behind its bytes are noughts.
func TestWrongCount(t *testing.T) {
	counts := []int{1000, 1 << 10, 4095, 1<<12 + 1, 1 << 15, 1<<16 - 256, 1<<16 - 2, 1<<16 - 1}
	for count := range 600 {
		counts = append(counts, count)
	}
	for _, p := range samples() {
		was := things(p)
		for _, count := range counts {
			b := raw(byte(p.Kind), p.Txn, uint32(p.Next), count, roomOf(p))
			switch {
			case count == was:
				mustRight(t, "its own count", p)
			case p.Kind == page.Piece && count > was && count <= 237:
				q := p
				q.Data = append(slices.Clone(p.Data), make([]byte, count-was)...)
				mustRight(t, "a greater count", q)
			default:
				mustFail(t, "another count", b, api.ErrForm)
			}
		}
	}
}

// TestCountOfNothing: P4.1, counts where the room is all noughts: one item with nothing in it is right, no more.
func TestCountOfNothing(t *testing.T) {
	for count := range 300 {
		for kind := range 6 {
			right := kind == page.Leaf && count == 1 || kind == page.Spare && count == 0 ||
				kind == page.Piece && count >= 1 && count <= 237
			p, e := page.Decode(raw(byte(kind), 3, 0, count, nil))
			if right != (e == api.OK) || !right && e != api.ErrForm {
				t.Errorf("%d noughts of kind %d: %+v, %d", count, kind, p, e)
			}
		}
	}
}

// TestWrongLength: P4.1, lengths and Sizes of things that don't end in the room, or not where the next one begins.
func TestWrongLength(t *testing.T) {
	rooms := full()
	for _, c := range []struct {
		p    page.Page
		at   int // the byte of the room
		to   byte
		want api.Errno
	}{
		{rooms[0], 198, 4, api.OK}, {rooms[0], 198, 5, api.ErrForm}, {rooms[0], 198, 32, api.ErrForm}, {rooms[0], 198, 255, api.ErrForm},
		{rooms[0], 198, 3, api.ErrForm}, // what is behind it are no noughts
		{rooms[0], 200, 32, api.OK}, {rooms[0], 200, 33, api.ErrForm}, {rooms[0], 200, 64, api.ErrForm}, {rooms[0], 200, 31, api.ErrForm},
		{rooms[0], 200, 65, api.ErrForm}, {rooms[0], 200, 255, api.ErrForm}, {rooms[0], 199, 1, api.ErrForm}, {rooms[0], 199, 255, api.ErrForm},
		{rooms[0], 0, 31, api.ErrForm}, {rooms[0], 0, 33, api.ErrForm}, {rooms[0], 2, 63, api.ErrForm}, {rooms[0], 2, 65, api.ErrForm},
		{rooms[1], 198, 33, api.ErrForm}, {rooms[1], 198, 31, api.ErrForm}, {rooms[1], 200, 64, api.ErrForm}, {rooms[1], 200, 66, api.OK},
		{rooms[1], 199, 16, api.ErrForm}, {rooms[1], 199, 15, api.OK},
		{rooms[2], 222, 10, api.OK}, {rooms[2], 222, 11, api.ErrForm}, {rooms[2], 222, 9, api.ErrForm}, {rooms[2], 222, 255, api.ErrForm},
		{rooms[2], 0, 31, api.ErrForm}, {rooms[2], 0, 33, api.ErrForm},
	} {
		body := plain(c.p)[4:]
		body[15+c.at] = c.to
		if p, e := page.Decode(sealed(body)); e != c.want || (e == api.OK) != page.Right(p) {
			t.Errorf("%d at %d of kind %d: %+v, %d; want %d", c.to, c.at, c.p.Kind, p, e, c.want)
		}
	}
}

// TestCutOff: P4.1, the last thing ends behind the room, by any number of bytes.
func TestCutOff(t *testing.T) {
	for n := range 61 { // the third item begins at 198 - n, and ends 60 - n bytes behind the room
		items := []page.Item{
			{Key: text(32, 'a'), Value: text(64, 'v'), Size: 64},
			{Key: text(32, 'b'), Value: text(64-n, 'v'), Size: 64 - n},
			{Key: text(32, 'c'), Value: text(64, 0), Size: 64},
		}
		mustBe(t, "an item", leaf(items...), n == 60)
	}
	for n := 1; n <= 32; n++ {
		kids := []page.Kid{{Key: text(n, 0), Page: 5}}
		for i := range 60 {
			kids = append(kids, page.Kid{Key: text(n, byte(i+1)), Page: 1023})
		}
		goes := 237 / (n + 5)
		mustRight(t, "kids", branch(kids[:min(goes, 61)]...))
		if goes < 61 {
			mustNeither(t, "a kid", branch(kids[:goes+1]...))
		}
	}
}

// TestNoughts: P4.1, behind what a page has there are noughts, up to the end.
func TestNoughts(t *testing.T) {
	for _, p := range samples() {
		b := plain(p)
		for at := 19 + page.Used(p); at < 256; at++ {
			for _, c := range []byte{1, 128, 255} {
				body := slices.Clone(b[4:])
				body[at-4] = c
				mustFail(t, "no nought", sealed(body), api.ErrForm)
			}
		}
	}
}

// TestUnlike: P4.2, unlike pages have unlike bytes.
func TestUnlike(t *testing.T) {
	pages := append(samples(),
		leaf(short("ab", "c")), leaf(short("a", "bc")), leaf(short("", "abc")), leaf(short("abc", "")),
		leaf(short("a", ""), short("b", "")), leaf(short("a", "x"), short("b", "")), leaf(short("a", ""), short("b", "x")),
		leaf(long("a", 65, 5)), leaf(long("a", 66, 5)), leaf(long("a", 65, 6)), leaf(short("a", "\x00\x00\x00\x05")),
		branch(kid("a", 6)), branch(kid("b", 5)), branch(kid("", 5)), branch(kid("a", 5), kid("b", 5)),
		piece([]byte("x\x00")), piece([]byte("x\x00\x00")), piece([]byte("\x00")), piece([]byte("\x00\x00\x00\x05")),
		spare(6), spare(5, 6), spare(1, 5),
		page.Page{Kind: page.Leaf, Txn: 8, Items: []page.Item{short("a", "x")}},
		page.Page{Kind: page.Leaf, Txn: 7 << 56, Items: []page.Item{short("a", "x")}},
		page.Page{Kind: page.Piece, Txn: 7, Next: 1, Data: []byte("x")},
		page.Page{Kind: page.Piece, Txn: 7, Next: 256, Data: []byte("x")},
		page.Page{Kind: page.Spare, Txn: 7, Next: 5}, page.Page{Kind: page.Spare, Txn: 5, Next: 7},
	)
	told := map[string]int{}
	for i, p := range pages {
		b, e := page.Encode(p)
		if e != api.OK {
			t.Fatalf("Encode(%+v): %d", p, e)
		}
		if other, ok := told[string(b)]; ok && !same(p, pages[other]) {
			t.Errorf("%+v and %+v have the same bytes", p, pages[other])
		}
		told[string(b)] = i
	}
}
