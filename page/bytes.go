package page

import (
	"terrier/api"
	"terrier/octets"
	"terrier/sum"
)

// How many bytes the numbers of a page have.
const (
	sumSize    = 4
	kindSize   = 1
	txnSize    = 8
	countSize  = 2
	lengthSize = 1 // of a key's length
	blobSize   = 2 // of an item's Size
	idSize     = 4 // of a page's number
)

// Encode: a page's bytes.
func Encode(p Page) ([]byte, api.Errno) {
	if !Right(p) {
		return nil, api.ErrForm
	}
	var w writer
	w.num(uint64(p.Kind), kindSize)
	w.num(p.Txn, txnSize)
	w.id(p.Next)
	w.num(uint64(counts(p)[p.Kind]), countSize)
	w.things(p)
	return sum.Seal(w.body[:]), api.OK
}

// writer lays one thing behind the other into what a page's checksum is of: noughts at first.
type writer struct {
	body [api.PageSize - sumSize]byte
	at   int
}

// bytes: these bytes.
func (w *writer) bytes(b []byte) { w.at += copy(w.body[w.at:], b) }

// num: a number in so many bytes. It goes into them, as the page is right.
func (w *writer) num(n uint64, size int) {
	b, _ := octets.Put(n, size)
	w.bytes(b)
}

// id: a page's number.
func (w *writer) id(n int) { w.num(uint64(n), idSize) }

// things: what the page has.
func (w *writer) things(p Page) {
	for _, item := range p.Items {
		w.item(item)
	}
	for _, kid := range p.Kids {
		w.num(uint64(len(kid.Key)), lengthSize)
		w.bytes(kid.Key)
		w.id(kid.Page)
	}
	w.bytes(p.Data)
	for _, id := range p.IDs {
		w.id(id)
	}
}

// item: a key, and its value or where that begins.
func (w *writer) item(item Item) {
	w.num(uint64(len(item.Key)), lengthSize)
	w.num(uint64(item.Size), blobSize)
	w.bytes(item.Key)
	if isInline(item.Size) {
		w.bytes(item.Value)
	} else {
		w.id(item.More)
	}
}

// Decode: the page of bytes.
func Decode(b []byte) (Page, api.Errno) {
	if len(b) != api.PageSize {
		return Page{}, api.ErrForm
	}
	body, err := sum.Open(b)
	if err != api.OK {
		return Page{}, err
	}
	r := octets.NewReader(body)
	p := read(r)
	rest := r.Bytes(len(body) - r.At())
	if r.End() != api.OK || !blank(rest) || !Right(p) {
		return Page{}, api.ErrForm
	}
	return p, api.OK
}

// blank: are they all noughts?
func blank(b []byte) bool {
	for _, c := range b {
		if c != 0 {
			return false
		}
	}
	return true
}

// read: a page, right or not, up to the end of what it has; of a kind that there isn't it has nothing.
func read(r *octets.Reader) Page {
	p := Page{Kind: int(r.Num(kindSize))}
	p.Txn = r.Num(txnSize)
	p.Next = readID(r)
	count := int(r.Num(countSize))
	switch p.Kind {
	case Leaf:
		p.Items = readList(r, count, readItem)
	case Branch:
		p.Kids = readList(r, count, readKid)
	case Piece:
		p.Data = r.Bytes(count)
	case Spare:
		p.IDs = readList(r, count, readID)
	}
	return p
}

// readList: so many things, or those that the bytes have, if they end too soon: a count may be far greater than any page's.
func readList[T any](r *octets.Reader, count int, readOne func(*octets.Reader) T) []T {
	var out []T
	for len(out) < count && r.End() != api.ErrShort {
		out = append(out, readOne(r))
	}
	return out
}

// readID: a page's number.
func readID(r *octets.Reader) int { return int(r.Num(idSize)) }

// readKid: a key and a page.
func readKid(r *octets.Reader) Kid {
	length := int(r.Num(lengthSize))
	return Kid{Key: r.Bytes(length), Page: readID(r)}
}

// readItem: a key, and its value or where that begins.
func readItem(r *octets.Reader) Item {
	length := int(r.Num(lengthSize))
	item := Item{Size: int(r.Num(blobSize))}
	item.Key = r.Bytes(length)
	if isInline(item.Size) {
		item.Value = r.Bytes(item.Size)
	} else {
		item.More = readID(r)
	}
	return item
}
