package pager_test

import (
	"bytes"
	"slices"
	"testing"

	"terrier/api"
	"terrier/disk"
	"terrier/page"
	"terrier/pager"
)

// roomy is a row that has room behind it, in which something stands.
func roomy(b []byte) []byte {
	return append(append(make([]byte, 0, len(b)+8), b...), "SPARE"...)[:len(b)]
}

// apart is a page with the same in it, in memory of its own.
func apart(x page.Page) page.Page {
	x.Data, x.IDs, x.Items, x.Kids = roomy(x.Data), slices.Clone(x.IDs), slices.Clone(x.Items), slices.Clone(x.Kids)
	for i := range x.Items {
		x.Items[i].Key, x.Items[i].Value = roomy(x.Items[i].Key), roomy(x.Items[i].Value)
	}
	for i := range x.Kids {
		x.Kids[i].Key = roomy(x.Kids[i].Key)
	}
	return x
}

// rows are all rows of bytes that a page has.
func rows(x page.Page) [][]byte {
	out := [][]byte{x.Data}
	for _, item := range x.Items {
		out = append(out, item.Key, item.Value)
	}
	for _, kid := range x.Kids {
		out = append(out, kid.Key)
	}
	return out
}

// spoil writes over all that a page has, the room behind it too.
func spoil(x page.Page) {
	for _, b := range rows(x) {
		b = b[:cap(b)]
		for i := range b {
			b[i] += 0x35
		}
	}
	spoilIDs(x.IDs)
	for i := range x.Items[:cap(x.Items)] {
		x.Items[:cap(x.Items)][i] = page.Item{Size: 77}
	}
	for i := range x.Kids[:cap(x.Kids)] {
		x.Kids[:cap(x.Kids)][i] = page.Kid{Page: 77}
	}
}

// spoilIDs writes over numbers, the room behind them too.
func spoilIDs(ids []int) {
	ids = ids[:cap(ids)]
	for i := range ids {
		ids[i] = 77
	}
}

// TestPageIsKept: R4, what Add is handed isn't changed, the room behind it neither, nor kept.
func TestPageIsKept(t *testing.T) {
	d, p := opened(t, 30)
	for i, x := range rights() {
		mine := apart(written(x, 99))
		var was [][]byte
		for _, b := range rows(mine) {
			was = append(was, bytes.Clone(b[:cap(b)]))
		}
		mustAdd(t, p, mine, 3+i)
		if mine.Txn != 99 || !same(mine, written(x, 99)) {
			t.Fatalf("Add has changed %+v into %+v", x, mine)
		}
		for i, b := range rows(mine) {
			if !bytes.Equal(b[:cap(b)], was[i]) {
				t.Fatalf("Add has changed % x into % x", was[i], b[:cap(b)])
			}
		}
		spoil(mine)
		mustRead(t, p, 3+i, written(x, 2))
	}
	mustCommit(t, p)
	for i, x := range rights() {
		mustRead(t, p, 3+i, written(x, 2))
	}
	mustRead(t, mustOpen(t, d), 3, written(rights()[0], 2))
}

// TestRefusedPageIsKept: R4, beside an error neither.
func TestRefusedPageIsKept(t *testing.T) {
	_, p := opened(t, 8)
	for _, x := range []page.Page{{Kind: page.Spare, IDs: []int{7, 3, 5}}, {Kind: page.Branch, Kids: []page.Kid{{Key: []byte("b"), Page: 4}, {Key: []byte("a"), Page: 0}}}} {
		mine := apart(x)
		mustNotAdd(t, p, mine, api.ErrForm)
		if !slices.Equal(mine.IDs, x.IDs) || len(mine.Kids) > 0 && (mine.Kids[0].Page != 4 || string(mine.Kids[1].Key) != "a") {
			t.Fatalf("Add has changed %+v into %+v", x, mine)
		}
	}
}

// TestPageIsNew: R4, what is done to a page that was read is seen nowhere; of added pages and of those on the disk.
func TestPageIsNew(t *testing.T) {
	_, p := opened(t, 30)
	for i, x := range rights() {
		mustAdd(t, p, x, 3+i)
	}
	s := p.Save()
	for range 2 {
		for i, x := range rights() {
			first, _ := p.Read(3 + i)
			second, _ := p.Read(3 + i)
			spoil(first)
			if !same(second, written(x, 2)) {
				t.Fatalf("two answers share memory: %+v", second)
			}
			mustRead(t, p, 3+i, written(x, 2))
		}
		p.Back(s)
		for i, x := range rights() {
			mustRead(t, p, 3+i, written(x, 2))
		}
		mustCommit(t, p)
	}
}

// TestSpareIsNew: R4, what is done to the numbers that Spare tells is seen nowhere, nor the other way round.
func TestSpareIsNew(t *testing.T) {
	d, p := opened(t, 130)
	want := upTo(5, 130)
	first := p.Spare()
	spoilIDs(first)
	mustSpare(t, p, want...)
	second := p.Spare()
	mustAdd(t, p, leaf("x"), 5)
	s := p.Save()
	spoilIDs(p.Spare())
	mustAdd(t, p, leaf("x"), 6)
	p.Back(s)
	mustSpare(t, p, want[1:]...)
	if !slices.Equal(second, want) {
		t.Fatalf("what was told has become %v", second)
	}
	spoilIDs(p.Spare())
	mustCommit(t, p) // the chain is 6, 7, 8
	spoilIDs(p.Spare())
	mustSpare(t, p, append([]int{2, 3, 4}, want[4:]...)...)
	mustSpare(t, mustOpen(t, d), p.Spare()...)
	mustNotDrop(t, p, api.ErrExist, 6, 7, 8)
}

// TestDiskIsKept: R4, the pager's disk is the one that it was opened with, not a copy; a copy of it has what was committed alone, and goes on apart.
func TestDiskIsKept(t *testing.T) {
	d, p := opened(t, 8)
	mustAdd(t, p, leaf("x"), 3)
	c := d.Copy()
	mustCommit(t, p)
	mustTell(t, mustOpen(t, d), 2, 0, 2, 5, 6, 7)
	q := mustOpen(t, c)
	mustTell(t, q, 1, 0, 3, 4, 5, 6, 7)
	mustAdd(t, q, leaf("y"), 3)
	mustCommit(t, q)
	mustRead(t, p, 3, written(leaf("x"), 2))
	mustRead(t, q, 3, written(leaf("y"), 2))
	put(t, d, 3, bytesOf(leaf("by hand")))
	mustRead(t, p, 3, leaf("by hand"))
}

// TestAsking: R3 and R5, what only asks changes nothing, and doesn't write.
func TestAsking(t *testing.T) {
	d, p := opened(t, 8)
	mustAdd(t, p, leaf("x"), 3)
	p.SetRoot(3)
	done := d.Done()
	for range 4 {
		for id := -1; id < 10; id++ {
			p.Read(id)
		}
		p.Txn()
		p.Root()
		p.Spare()
		p.Save()
		pager.Open(d)
		mustTell(t, p, 1, 3, 4, 5, 6, 7)
		mustRead(t, p, 3, written(leaf("x"), 2))
	}
	if d.Done() != done || len(d.Cached()) > 0 {
		t.Fatal("asking writes")
	}
	mustCommit(t, p)
	mustTell(t, p, 2, 3, 2, 5, 6, 7)
}

// TestTransactionWritesNothing: P7.3, ahead of a commit nothing comes onto the disk or into its cache.
func TestTransactionWritesNothing(t *testing.T) {
	for _, d := range []*disk.Disk{formatted(t, 20), busy(t, 100)} {
		p := mustOpen(t, d)
		want := storeOf(t, d)
		done := d.Done()
		s := p.Save()
		for range 5 {
			id, _ := p.Add(leaf("x"))
			p.SetRoot(id)
			p.Add(piece("y"))
			p.Drop(id)
			p.Drop(9)
		}
		p.Back(s)
		if d.Done() != done || len(d.Cached()) > 0 {
			t.Fatal("a transaction writes ahead of its commit")
		}
		mustHave(t, "ahead of a commit", d, want)
	}
}
