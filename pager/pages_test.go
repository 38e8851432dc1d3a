package pager_test

import (
	"math"
	"slices"
	"testing"

	"terrier/api"
	"terrier/page"
	"terrier/pager"
)

// TestRead: P7.2, a page of this transaction, one of an older commit, and one that is spare.
func TestRead(t *testing.T) {
	d, p := opened(t, 8)
	mustNotRead(t, p, api.ErrSum, 3)
	mustAdd(t, p, leaf("x"), 3)
	mustRead(t, p, 3, written(leaf("x"), 2))
	if b, e := d.Read(3); e != api.OK || !slices.Equal(b, make([]byte, 256)) {
		t.Fatalf("on the disk ahead of the commit: % x, %d", b, e)
	}
	mustCommit(t, p)
	mustRead(t, p, 3, written(leaf("x"), 2))
	mustAdd(t, p, leaf("y"), 2)
	mustRead(t, p, 2, written(leaf("y"), 3))
	mustRead(t, p, 3, written(leaf("x"), 2))
	mustRead(t, p, 4, page.Page{Kind: page.Spare, Txn: 2, IDs: []int{2, 5, 6, 7}}) // the chain may be read, too
	mustDrop(t, p, 3)
	mustRead(t, p, 3, written(leaf("x"), 2))
	mustCommit(t, p)
	mustRead(t, p, 3, written(leaf("x"), 2)) // spare, and as it was
	mustSpare(t, p, 3, 4, 6, 7)
	mustNotRead(t, p, api.ErrSum, 6)
	mustDrop(t, p, 2)
	mustAdd(t, p, leaf("z"), 3)
	mustRead(t, p, 3, written(leaf("z"), 4))
	mustDrop(t, p, 3)
	mustRead(t, p, 3, written(leaf("x"), 2)) // there no more: what stands on the disk
}

// TestReadOutside: P7.2, numbers that aren't 2 to Size - 1, of any size.
func TestReadOutside(t *testing.T) {
	for _, size := range sizes() {
		d, p := opened(t, size)
		mustNotRead(t, p, api.ErrRange, outside(size)...)
		put(t, d, size-1, bytesOf(leaf("end")))
		mustRead(t, p, size-1, leaf("end"))
		chain, _ := page.Decode(formatOps(size)[2].bytes)
		mustRead(t, p, 2, chain)
		d.Fuse(0)
		mustNotRead(t, p, api.ErrRange, outside(size)...)
		mustNotRead(t, p, api.ErrDead, 2, 3, size-1)
	}
}

// TestReadWrong: P7.2, pages that can't be read.
func TestReadWrong(t *testing.T) {
	d, p := opened(t, 9)
	b := bytesOf(leaf("x"))
	b[77] ^= 1
	put(t, d, 5, b)
	put(t, d, 6, sealed([]byte{9}))
	put(t, d, 7, metaBytes(2, 0, 0, 9))
	mustNotRead(t, p, api.ErrSum, 5, 8)
	mustNotRead(t, p, api.ErrForm, 6, 7)
}

// TestReadDead: P7.2, an added page is read even if the disk is dead, and the pager isn't dead by it.
func TestReadDead(t *testing.T) {
	d, p := opened(t, 8)
	mustAdd(t, p, leaf("x"), 3)
	mustCommit(t, p)
	d.Fuse(0)
	mustAdd(t, p, leaf("y"), 2)
	mustRead(t, p, 2, written(leaf("y"), 3))
	mustNotRead(t, p, api.ErrDead, 3, 4, 7)
	mustDrop(t, p, 3)
	mustSpare(t, p, 5, 6, 7)
	d.Crash()
	mustRead(t, p, 3, written(leaf("x"), 2))
	mustCommit(t, p)
	mustRead(t, p, 2, written(leaf("y"), 3))
}

// TestAddRight: P7.2, pages of all kinds, whatever their Txn is.
func TestAddRight(t *testing.T) {
	for _, txn := range []uint64{0, 1, 2, 3, 1 << 63, math.MaxUint64} {
		_, p := opened(t, 20)
		for i, x := range rights() {
			mustAdd(t, p, written(x, txn), 3+i)
			mustRead(t, p, 3+i, written(x, 2))
		}
		mustCommit(t, p)
		for i, x := range rights() {
			mustRead(t, p, 3+i, written(x, 2))
		}
		mustAdd(t, p, written(leaf("x"), txn), 2)
		mustRead(t, p, 2, written(leaf("x"), 3))
	}
}

// TestAddWrong: P7.2, pages that aren't right; this is told ahead of there being no room.
func TestAddWrong(t *testing.T) {
	_, p := opened(t, 8)
	for _, x := range wrongs() {
		mustNotAdd(t, p, x, api.ErrForm)
		mustNotAdd(t, p, written(x, 2), api.ErrForm)
	}
	for id := 3; id < 7; id++ {
		mustAdd(t, p, leaf("x"), id)
	}
	mustNotAdd(t, p, leaf("x"), api.ErrNoSpace)
	for _, x := range wrongs() {
		mustNotAdd(t, p, x, api.ErrForm)
	}
	mustSpare(t, p, 7)
}

// TestAddAll: P7.2, up to the bound of each size, and beyond; a commit behind it finds room.
func TestAddAll(t *testing.T) {
	for size := 8; size <= 1024; size++ {
		if size > 130 && !slices.Contains(sizes(), size) && size%60 > 3 {
			continue
		}
		_, p := opened(t, size)
		rest := p.Spare()
		bound := size/60 + 2
		for len(rest) >= bound {
			mustAdd(t, p, leaf("x"), rest[0])
			rest = rest[1:]
		}
		mustSpare(t, p, rest...)
		mustNotAdd(t, p, leaf("x"), api.ErrNoSpace)
		mustNotAdd(t, p, leaf("x"), api.ErrNoSpace)
		mustDrop(t, p, rest[0]-1)
		mustAdd(t, p, leaf("y"), rest[0]-1)
		mustNotAdd(t, p, leaf("x"), api.ErrNoSpace)
		for range 5 {
			mustCommit(t, p)
		}
	}
}

// TestAddBound: P7.2, the bound in numbers.
func TestAddBound(t *testing.T) {
	for _, c := range []struct{ size, added int }{{8, 4}, {9, 5}, {59, 55}, {60, 55}, {61, 56}, {62, 57}, {119, 113}, {120, 113}, {180, 171}, {1020, 983}, {1024, 986}} {
		_, p := opened(t, c.size)
		n := 0
		for e := api.OK; e == api.OK; n++ {
			_, e = p.Add(leaf("x"))
		}
		if n-1 != c.added {
			t.Fatalf("of %d pages %d were added; want %d", c.size, n-1, c.added)
		}
	}
}

// TestAddFew: P7.2, on disks that have few spare pages, or none.
func TestAddFew(t *testing.T) {
	for spares := range 4 {
		p := mustOpen(t, withChain(t, 8, []int{3}, upTo(8-spares, 8)))
		if spares >= 2 {
			mustAdd(t, p, leaf("x"), 8-spares)
		} else {
			mustNotAdd(t, p, leaf("x"), api.ErrNoSpace)
		}
		p = mustOpen(t, withChain(t, 120, []int{3}, upTo(120-spares-1, 120)))
		if spares == 3 {
			mustAdd(t, p, leaf("x"), 116)
		}
		mustNotAdd(t, p, leaf("x"), api.ErrNoSpace)
	}
}

// TestDrop: P7.2, pages of each sort.
func TestDrop(t *testing.T) {
	_, p := opened(t, 10)
	mustAdd(t, p, leaf("a"), 3)
	mustAdd(t, p, leaf("b"), 4)
	mustCommit(t, p) // the chain is 5
	mustSpare(t, p, 2, 6, 7, 8, 9)
	mustAdd(t, p, leaf("c"), 2)
	mustAdd(t, p, leaf("d"), 6)
	mustNotDrop(t, p, api.ErrExist, 5, 7, 8, 9)
	mustDrop(t, p, 3)
	mustSpare(t, p, 7, 8, 9)
	mustNotDrop(t, p, api.ErrExist, 3)
	mustDrop(t, p, 2)
	mustSpare(t, p, 2, 7, 8, 9)
	mustNotDrop(t, p, api.ErrExist, 2)
	mustNotDrop(t, p, api.ErrRange, outside(10)...)
	mustRead(t, p, 4, written(leaf("b"), 2))
	mustCommit(t, p) // the chain is 2
	mustSpare(t, p, 3, 5, 7, 8, 9)
	mustNotDrop(t, p, api.ErrExist, 2, 3, 5, 7, 8, 9)
	mustDrop(t, p, 4, 6)
	mustNotDrop(t, p, api.ErrExist, 4, 6)
	mustSpare(t, p, 3, 5, 7, 8, 9)
	mustCommit(t, p) // the chain is 3
	mustSpare(t, p, 2, 4, 5, 6, 7, 8, 9)
}

// TestDropOutside: P7.2, of any size, and the last page that there is.
func TestDropOutside(t *testing.T) {
	for _, size := range sizes() {
		d, p := opened(t, size)
		mustNotDrop(t, p, api.ErrRange, outside(size)...)
		mustNotDrop(t, p, api.ErrExist, 2, 3, size-1)
		d.Fuse(0)
		mustNotDrop(t, p, api.ErrRange, outside(size)...)
		d.Crash()
		put(t, d, 2, spareBytes(1, 0))
		p = mustOpen(t, d)
		mustNotDrop(t, p, api.ErrExist, 2)
		mustDrop(t, p, 3, size-1)
		mustSpare(t, p)
	}
}

// TestDropAgain: P7.2, a page that was dropped and added again may be dropped again; it has what it was added with.
func TestDropAgain(t *testing.T) {
	_, p := opened(t, 8)
	for i := range 5 {
		x := leaf(string(make([]byte, i)))
		mustAdd(t, p, x, 3)
		mustRead(t, p, 3, written(x, 2))
		mustDrop(t, p, 3)
		mustNotDrop(t, p, api.ErrExist, 3)
		mustNotRead(t, p, api.ErrSum, 3)
	}
	mustSpare(t, p, 3, 4, 5, 6, 7)
	d, q := opened(t, 8)
	mustAdd(t, q, leaf("x"), 3)
	mustAdd(t, q, leaf("y"), 4)
	mustDrop(t, q, 3)
	done := d.Done()
	mustCommit(t, q)
	if got := d.Done() - done; got != 5 {
		t.Fatalf("%d writes and syncs; want those of 4, 3, two syncs and a meta", got)
	}
	mustRead(t, q, 4, written(leaf("y"), 2))
	mustRead(t, q, 3, page.Page{Kind: page.Spare, Txn: 2, IDs: []int{2, 5, 6, 7}})
}

// TestRoot: P7.2, the transaction's root, and that of the last commit behind an opening.
func TestRoot(t *testing.T) {
	d, p := opened(t, 8)
	for _, id := range append(outside(8), 0, 2, 3, 7) {
		p.SetRoot(id)
		mustTell(t, p, 1, id, 3, 4, 5, 6, 7)
		mustTell(t, mustOpen(t, d), 1, 0, 3, 4, 5, 6, 7)
	}
	mustCommit(t, p) // the chain is 3
	mustTell(t, p, 2, 7, 2, 4, 5, 6, 7)
	p.SetRoot(5)
	mustTell(t, mustOpen(t, d), 2, 7, 2, 4, 5, 6, 7)
	mustTell(t, p, 2, 5, 2, 4, 5, 6, 7)
	mustCommit(t, p)
	p.SetRoot(0)
	mustTell(t, mustOpen(t, d), 3, 5, 3, 4, 5, 6, 7)
	mustCommit(t, p)
	mustTell(t, mustOpen(t, d), 4, 0, 2, 4, 5, 6, 7)
}

// TestRootWrong: R3, a root that can't be is told, but not committed: this is refused ahead of the first write, and nothing has changed.
func TestRootWrong(t *testing.T) {
	for _, id := range outside(8) {
		if id == 0 {
			continue
		}
		d, p := opened(t, 8)
		mustAdd(t, p, leaf("x"), 3)
		p.SetRoot(id)
		done := d.Done()
		mustBe(t, "Commit", p.Commit(), api.ErrForm)
		if d.Done() != done {
			t.Fatal("a commit that is refused writes")
		}
		mustTell(t, p, 1, id, 4, 5, 6, 7)
		mustRead(t, p, 3, written(leaf("x"), 2))
		p.SetRoot(3)
		mustCommit(t, p)
		mustTell(t, mustOpen(t, d), 2, 3, 2, 5, 6, 7)
	}
}

// TestNil: P7.4, every call on a nil pager.
func TestNil(t *testing.T) {
	var p *pager.Pager
	p.SetRoot(3)
	p.Back(p.Save())
	p.Back(pager.Saved{})
	mustTell(t, p, 0, 0)
	for _, id := range append(outside(8), 2, 3) {
		mustNotRead(t, p, api.ErrArg, id)
		mustNotDrop(t, p, api.ErrArg, id)
	}
	for _, x := range append(rights(), wrongs()...) {
		mustNotAdd(t, p, x, api.ErrArg)
	}
	mustBe(t, "Commit", p.Commit(), api.ErrArg)
	_, q := opened(t, 8)
	mustAdd(t, q, leaf("x"), 3)
	p.Back(q.Save())
	q.Back(p.Save())
	mustTell(t, q, 1, 0, 4, 5, 6, 7)
	mustTell(t, p, 0, 0)
}
