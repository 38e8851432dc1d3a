package page_test

import (
	"bytes"
	"encoding/binary"
	"hash/crc32"
	"slices"
	"testing"

	"terrier/api"
	"terrier/page"
)

// sealed is a row of bytes behind its checksum.
func sealed(body []byte) []byte {
	crc := crc32.Checksum(body, crc32.MakeTable(crc32.Castagnoli))
	return append(binary.BigEndian.AppendUint32(nil, crc), body...)
}

// raw is a page's bytes with this head and what is in its room, which is cut off or filled up to 237 bytes.
func raw(kind byte, txn uint64, next uint32, count int, room []byte) []byte {
	body := []byte{kind}
	body = binary.BigEndian.AppendUint64(body, txn)
	body = binary.BigEndian.AppendUint32(body, next)
	body = binary.BigEndian.AppendUint16(body, uint16(count))
	body = append(body, room[:min(len(room), 237)]...)
	return sealed(append(body, make([]byte, 252-len(body))...))
}

// roomOf is what a page has, as the chapter's table says it, however long it is.
func roomOf(p page.Page) []byte {
	var out []byte
	for _, item := range p.Items {
		out = append(out, byte(len(item.Key)))
		out = binary.BigEndian.AppendUint16(out, uint16(item.Size))
		out = append(out, item.Key...)
		if item.Size <= 64 {
			out = append(out, item.Value...)
		} else {
			out = binary.BigEndian.AppendUint32(out, uint32(item.More))
		}
	}
	for _, kid := range p.Kids {
		out = append(out, byte(len(kid.Key)))
		out = append(out, kid.Key...)
		out = binary.BigEndian.AppendUint32(out, uint32(kid.Page))
	}
	out = append(out, p.Data...)
	for _, id := range p.IDs {
		out = binary.BigEndian.AppendUint32(out, uint32(id))
	}
	return out
}

// things is how many items, kids, bytes or numbers a page has.
func things(p page.Page) int { return len(p.Items) + len(p.Kids) + len(p.Data) + len(p.IDs) }

// plain is the bytes of a page that is of one kind and whose numbers go into their places, right or not.
func plain(p page.Page) []byte {
	return raw(byte(p.Kind), p.Txn, uint32(p.Next), things(p), roomOf(p))
}

// same: are they alike, nil and empty lists the same?
func same(a, b page.Page) bool {
	return a.Kind == b.Kind && a.Txn == b.Txn && a.Next == b.Next &&
		slices.EqualFunc(a.Items, b.Items, func(x, y page.Item) bool {
			return bytes.Equal(x.Key, y.Key) && bytes.Equal(x.Value, y.Value) && x.Size == y.Size && x.More == y.More
		}) &&
		slices.EqualFunc(a.Kids, b.Kids, func(x, y page.Kid) bool {
			return bytes.Equal(x.Key, y.Key) && x.Page == y.Page
		}) &&
		bytes.Equal(a.Data, b.Data) && slices.Equal(a.IDs, b.IDs)
}

// text is n bytes, all of them c.
func text(n int, c byte) []byte { return bytes.Repeat([]byte{c}, n) }

// short is an item whose value stands in it.
func short(key, value string) page.Item {
	return page.Item{Key: []byte(key), Value: []byte(value), Size: len(value)}
}

// long is an item whose value begins in another page.
func long(key string, size, more int) page.Item {
	return page.Item{Key: []byte(key), Size: size, More: more}
}

// kid is a page beneath.
func kid(key string, id int) page.Kid { return page.Kid{Key: []byte(key), Page: id} }

func leaf(items ...page.Item) page.Page { return page.Page{Kind: page.Leaf, Txn: 7, Items: items} }

func branch(kids ...page.Kid) page.Page { return page.Page{Kind: page.Branch, Txn: 7, Kids: kids} }

func piece(data []byte) page.Page { return page.Page{Kind: page.Piece, Txn: 7, Data: data} }

func spare(ids ...int) page.Page { return page.Page{Kind: page.Spare, Txn: 7, IDs: ids} }

// full are pages of each kind whose room is full to its last byte, or, of a Spare, as far as numbers go into it.
func full() []page.Page {
	ids := make([]int, 59)
	for i := range ids {
		ids[i] = 3 + 17*i
	}
	kids := []page.Kid{}
	for i := range 6 {
		kids = append(kids, page.Kid{Key: text(32, byte(i)), Page: 1023 - i})
	}
	items := []page.Item{
		{Key: text(32, 1), Value: text(64, 9), Size: 64},
		{Key: text(32, 2), Value: text(64, 9), Size: 64},
	}
	return []page.Page{
		leaf(append(slices.Clone(items), short("\x03abc", string(text(32, 7))))...),
		leaf(append(slices.Clone(items), long(string(text(32, 3)), 65, 5))...),
		branch(append(kids, kid("\xff234567890", 9))...),
		piece(text(237, 255)),
		spare(ids...),
	}
}

// sameBytes asks that a page's bytes are those of the chapter's words.
func sameBytes(t *testing.T, what string, p page.Page, want []byte) {
	t.Helper()
	if b, e := page.Encode(p); e != api.OK || !bytes.Equal(b, want) {
		t.Fatalf("%s: Encode: % x, %d; want % x", what, b, e, want)
	}
}

// mustRight asks that a page is right, has its bytes, and is found again in them.
func mustRight(t *testing.T, what string, p page.Page) {
	t.Helper()
	if !page.Right(p) {
		t.Fatalf("%s: it isn't right: %+v", what, p)
	}
	want := plain(p)
	sameBytes(t, what, p, want)
	if got, e := page.Decode(want); e != api.OK || !same(got, p) {
		t.Fatalf("%s: Decode: %+v, %d; want %+v", what, got, e, p)
	}
	if page.Used(p) != len(roomOf(p)) {
		t.Fatalf("%s: Used: %d; want %d", what, page.Used(p), len(roomOf(p)))
	}
}

// mustWrong asks that a page isn't right, and has no bytes.
func mustWrong(t *testing.T, what string, p page.Page) {
	t.Helper()
	if page.Right(p) {
		t.Fatalf("%s: it is right: %+v", what, p)
	}
	if b, e := page.Encode(p); e != api.ErrForm || len(b) != 0 {
		t.Fatalf("%s: Encode: % x, %d; want %d", what, b, e, api.ErrForm)
	}
}

// mustFail asks that bytes are no page's, for this reason.
func mustFail(t *testing.T, what string, b []byte, want api.Errno) {
	t.Helper()
	if p, e := page.Decode(b); e != want || !same(p, page.Page{}) {
		t.Fatalf("%s: Decode: %+v, %d; want %d", what, p, e, want)
	}
}

// mustNeither asks that a page isn't right, and that the bytes that it would have are no page's.
func mustNeither(t *testing.T, what string, p page.Page) {
	t.Helper()
	mustWrong(t, what, p)
	mustFail(t, what, plain(p), api.ErrForm)
}

// mustBe asks for the one or for the other.
func mustBe(t *testing.T, what string, p page.Page, right bool) {
	t.Helper()
	if right {
		mustRight(t, what, p)
	} else {
		mustNeither(t, what, p)
	}
}
