package pager_test

import (
	"bytes"
	"math"
	"math/rand"
	"slices"
	"testing"

	"terrier/api"
	"terrier/disk"
	"terrier/page"
	"terrier/pager"
)

// leaf is a page that has one item.
func leaf(value string) page.Page {
	item := page.Item{Key: []byte("key"), Value: []byte(value), Size: len(value)}
	return page.Page{Kind: page.Leaf, Items: []page.Item{item}}
}

// piece is a page that has bytes.
func piece(data string) page.Page { return page.Page{Kind: page.Piece, Data: []byte(data)} }

// written is such a page as it is read when it was added behind the commit ahead of txn.
func written(x page.Page, txn uint64) page.Page {
	x.Txn = txn
	return x
}

// rights are right pages of all kinds.
func rights() []page.Page {
	full := page.Page{Kind: page.Piece, Next: 1023, Data: bytes.Repeat([]byte("x"), 237)}
	branch := page.Page{Kind: page.Branch, Kids: []page.Kid{{Page: 1023}, {Key: []byte("k"), Page: 1}}}
	blob := page.Page{Kind: page.Leaf, Items: []page.Item{{Key: []byte("k"), Size: 4096, More: 1023}}}
	return []page.Page{leaf(""), leaf("x"), blob, branch, piece("x"), full,
		{Kind: page.Spare}, {Kind: page.Spare, Next: 1, IDs: upTo(1, 60)}}
}

// wrongs are pages that aren't right.
func wrongs() []page.Page {
	return []page.Page{{}, {Txn: 2}, {Kind: -1}, {Kind: 5}, {Kind: page.Leaf}, {Kind: page.Branch}, {Kind: page.Piece},
		{Kind: page.Leaf, Next: 3, Items: leaf("x").Items}, {Kind: page.Spare, Next: 1024}, {Kind: page.Spare, Next: -1},
		{Kind: page.Spare, IDs: []int{4, 3}}, {Kind: page.Spare, IDs: []int{3, 3}}, {Kind: page.Spare, IDs: []int{0}},
		{Kind: page.Spare, IDs: []int{1024}}, {Kind: page.Spare, IDs: upTo(1, 61)}, {Kind: page.Piece, Data: make([]byte, 238)},
		{Kind: page.Branch, Kids: []page.Kid{{Page: 0}}}, {Kind: page.Piece, Data: []byte("x"), IDs: []int{3}}}
}

// outside are numbers that aren't 2 to size - 1.
func outside(size int) []int {
	return []int{math.MinInt, math.MinInt32, -1, 0, 1, size, size + 1, 1 << 20, 1 << 32, 1<<32 + 3, math.MaxInt}
}

// sizes are those at which something changes.
func sizes() []int {
	return []int{8, 9, 59, 60, 61, 62, 63, 64, 119, 120, 121, 122, 123, 124, 182, 183, 240, 1022, 1023, 1024}
}

// made is a disk of so many noughts' pages.
func made(t *testing.T, size int) *disk.Disk {
	t.Helper()
	d := disk.New(size)
	if d == nil {
		t.Fatalf("disk.New(%d): nil", size)
	}
	return d
}

// mustBe asks for this error.
func mustBe(t *testing.T, what string, got, want api.Errno) {
	t.Helper()
	if got != want {
		t.Fatalf("%s: %d; want %d", what, got, want)
	}
}

// formatted is a disk that was formatted.
func formatted(t *testing.T, size int) *disk.Disk {
	t.Helper()
	d := made(t, size)
	mustBe(t, "Format", pager.Format(d), api.OK)
	return d
}

// mustOpen opens a disk.
func mustOpen(t *testing.T, d *disk.Disk) *pager.Pager {
	t.Helper()
	p, e := pager.Open(d)
	if e != api.OK || p == nil {
		t.Fatalf("Open: %v, %d", p, e)
	}
	return p
}

// mustNotOpen asks that it doesn't, for this reason.
func mustNotOpen(t *testing.T, what string, d *disk.Disk, want api.Errno) {
	t.Helper()
	if p, e := pager.Open(d); p != nil || e != want {
		t.Fatalf("%s: Open: %v, %d; want %d", what, p, e, want)
	}
}

// opened is a pager of a disk that was formatted.
func opened(t *testing.T, size int) (*disk.Disk, *pager.Pager) {
	t.Helper()
	d := formatted(t, size)
	return d, mustOpen(t, d)
}

// put writes a page's bytes onto a disk.
func put(t *testing.T, d *disk.Disk, id int, b []byte) {
	t.Helper()
	mustBe(t, "Write", d.Write(id, b), api.OK)
	mustBe(t, "Sync", d.Sync(), api.OK)
}

// mustAdd adds a page, which gets this number.
func mustAdd(t *testing.T, p *pager.Pager, x page.Page, want int) {
	t.Helper()
	if id, e := p.Add(x); id != want || e != api.OK {
		t.Fatalf("Add: %d, %d; want %d", id, e, want)
	}
}

// mustNotAdd asks that a page isn't added, for this reason.
func mustNotAdd(t *testing.T, p *pager.Pager, x page.Page, want api.Errno) {
	t.Helper()
	was := p.Spare()
	if id, e := p.Add(x); id != 0 || e != want {
		t.Fatalf("Add(%+v): %d, %d; want %d", x, id, e, want)
	}
	mustSpare(t, p, was...)
}

// mustDrop drops pages.
func mustDrop(t *testing.T, p *pager.Pager, ids ...int) {
	t.Helper()
	for _, id := range ids {
		if e := p.Drop(id); e != api.OK {
			t.Fatalf("Drop(%d): %d", id, e)
		}
	}
}

// mustNotDrop asks that pages aren't dropped, for this reason.
func mustNotDrop(t *testing.T, p *pager.Pager, want api.Errno, ids ...int) {
	t.Helper()
	was := p.Spare()
	for _, id := range ids {
		if e := p.Drop(id); e != want {
			t.Fatalf("Drop(%d): %d; want %d", id, e, want)
		}
		mustSpare(t, p, was...)
	}
}

// mustCommit commits.
func mustCommit(t *testing.T, p *pager.Pager) {
	t.Helper()
	txn := p.Txn()
	mustBe(t, "Commit", p.Commit(), api.OK)
	if p.Txn() != txn+1 {
		t.Fatalf("Txn behind a commit: %d; want %d", p.Txn(), txn+1)
	}
}

// mustRead asks what a page has.
func mustRead(t *testing.T, p *pager.Pager, id int, want page.Page) {
	t.Helper()
	if x, e := p.Read(id); e != api.OK || !same(x, want) {
		t.Fatalf("Read(%d): %+v, %d; want %+v", id, x, e, want)
	}
}

// mustNotRead asks that pages can't be read, for this reason.
func mustNotRead(t *testing.T, p *pager.Pager, want api.Errno, ids ...int) {
	t.Helper()
	for _, id := range ids {
		if x, e := p.Read(id); e != want || !isNothing(x) {
			t.Fatalf("Read(%d): %+v, %d; want %d", id, x, e, want)
		}
	}
}

// mustSpare asks which pages are spare.
func mustSpare(t *testing.T, p *pager.Pager, want ...int) {
	t.Helper()
	if got := p.Spare(); !slices.Equal(got, want) {
		t.Fatalf("Spare: %v; want %v", got, want)
	}
}

// mustTell asks for a pager's Txn, Root and Spare.
func mustTell(t *testing.T, p *pager.Pager, txn uint64, root int, spare ...int) {
	t.Helper()
	if p.Txn() != txn || p.Root() != root {
		t.Fatalf("Txn, Root: %d, %d; want %d, %d", p.Txn(), p.Root(), txn, root)
	}
	mustSpare(t, p, spare...)
}

// mustBeLike asks that a pager tells what a plain one does.
func mustBeLike(t *testing.T, p *pager.Pager, q *plain) {
	t.Helper()
	mustTell(t, p, q.txn, q.root, q.those(spare)...)
	for id := 0; id <= q.size; id++ {
		mustReadLike(t, p, q, id)
	}
}

// mustReadLike asks for one page of both.
func mustReadLike(t *testing.T, p *pager.Pager, q *plain, id int) {
	t.Helper()
	x, e := p.Read(id)
	if y, f := q.read(id); e != f || !same(x, y) {
		t.Fatalf("Read(%d): %+v, %d; want %+v, %d", id, x, e, y, f)
	}
}

// mustHave asks for all that stands on a disk, the cache too.
func mustHave(t *testing.T, what string, d *disk.Disk, want *store) {
	t.Helper()
	for id := range want.on {
		b, e := d.Read(id)
		if e != api.OK || !bytes.Equal(b, want.read(id)) {
			t.Fatalf("%s: the page %d has % x, %d; want % x", what, id, b, e, want.read(id))
		}
	}
}

// storeOf is what stands on a disk that isn't dead.
func storeOf(t *testing.T, d *disk.Disk) *store {
	t.Helper()
	s := blank(d.Size())
	cached := d.Cached()
	for id := range s.on {
		b, e := d.Read(id)
		mustBe(t, "disk.Read", e, api.OK)
		if slices.Contains(cached, id) {
			t.Fatalf("the page %d is in the cache", id)
		}
		s.on[id] = b
	}
	return s
}

// laid is a disk with these ops' pages on it.
func laid(t *testing.T, size int, ops []op) *disk.Disk {
	t.Helper()
	d := made(t, size)
	for _, o := range ops {
		mustBe(t, "Write", d.Write(o.page, o.bytes), api.OK)
	}
	mustBe(t, "Sync", d.Sync(), api.OK)
	return d
}

// withChain is a disk whose last commit was the transaction 4, with a chain that lists these numbers.
func withChain(t *testing.T, size int, chain, ids []int) *disk.Disk {
	t.Helper()
	first := 0
	if len(chain) > 0 {
		first = chain[0]
	}
	return laid(t, size, append(chainOps(4, chain, ids), op{0, metaBytes(4, 0, first, size)}))
}

// junk is a disk with anything on it.
func junk(t *testing.T, r *rand.Rand, size int) *disk.Disk {
	t.Helper()
	d := made(t, size)
	for id := range size {
		b := make([]byte, 256)
		r.Read(b)
		put(t, d, id, b)
	}
	return d
}
