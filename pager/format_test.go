package pager_test

import (
	"math/rand"
	"slices"
	"testing"

	"terrier/api"
	"terrier/disk"
	"terrier/pager"
)

// TestExample: P7.1 and P7.2, the chapter's example.
func TestExample(t *testing.T) {
	d, p := opened(t, 8)
	mustTell(t, p, 1, 0, 3, 4, 5, 6, 7)
	mustNotDrop(t, p, api.ErrExist, 2)
	mustAdd(t, p, leaf("x"), 3)
	mustSpare(t, p, 4, 5, 6, 7)
	b, e := d.Read(2)
	if want := spareBytes(1, 0, 3, 4, 5, 6, 7); e != api.OK || !slices.Equal(b, want) {
		t.Fatalf("the chain: % x, %d; want % x", b, e, want)
	}
}

// TestFormatBytes: P7.1, byte by byte, of each size: what was written, and that nothing else was.
func TestFormatBytes(t *testing.T) {
	r := rand.New(rand.NewSource(1))
	for size := 8; size <= 1024; size++ {
		d := made(t, size)
		if size < 200 || size > 1000 {
			d = junk(t, r, size)
		}
		want := storeOf(t, d)
		was := d.Done()
		mustBe(t, "Format", pager.Format(d), api.OK)
		ops := formatOps(size)
		want.run(ops, -1)
		if got := d.Done() - was; got != len(ops) {
			t.Fatalf("Format of %d pages: %d writes and syncs; want %d", size, got, len(ops))
		}
		mustHave(t, "formatted", d, want)
		d.Crash() // all of it was synced
		mustHave(t, "formatted, behind a crash", d, want)
	}
}

// TestFormatChain: P7.1, how long the chain is, in numbers; 60 pages need one chain page, and with each 60 more one more.
func TestFormatChain(t *testing.T) {
	for _, c := range []struct{ size, chain int }{
		{8, 1}, {9, 1}, {61, 1}, {62, 1}, {63, 2}, {64, 2}, {122, 2}, {123, 3}, {182, 3}, {183, 4}, {962, 16}, {963, 17}, {1022, 17}, {1023, 18}, {1024, 18},
	} {
		d, p := opened(t, c.size)
		mustTell(t, p, 1, 0, upTo(2+c.chain, c.size)...)
		mustNotDrop(t, p, api.ErrExist, upTo(2, 2+c.chain)...)
		if got := d.Done(); got != 2+c.chain+1 {
			t.Fatalf("Format of %d pages: %d writes and syncs; want %d", c.size, got, 3+c.chain)
		}
	}
}

// TestFormatEmptyEnd: P7.1, at 63 and 123 pages the last page of the chain lists nothing.
func TestFormatEmptyEnd(t *testing.T) {
	for _, c := range []struct{ size, last int }{{63, 3}, {123, 4}, {1023, 19}} {
		d := formatted(t, c.size)
		if b, e := d.Read(c.last); e != api.OK || !slices.Equal(b, spareBytes(1, 0)) {
			t.Fatalf("the page %d of %d: % x, %d; want a Spare of nothing", c.last, c.size, b, e)
		}
	}
}

// TestFormatNil: P7.1.
func TestFormatNil(t *testing.T) { mustBe(t, "Format(nil)", pager.Format(nil), api.ErrArg) }

// TestFormatDead: P7.1, the disk's first error.
func TestFormatDead(t *testing.T) {
	d := formatted(t, 8)
	want := storeOf(t, d)
	d.Fuse(0)
	was := d.Done()
	mustBe(t, "Format", pager.Format(d), api.ErrDead)
	if d.Done() != was || len(d.Cached()) > 0 {
		t.Fatal("Format writes onto a dead disk")
	}
	d.Crash()
	mustHave(t, "a dead disk", d, want)
}

// TestFormatOver: P7.1, what was there is gone, whatever it was: what is open behind it is as on a new disk.
func TestFormatOver(t *testing.T) {
	r := rand.New(rand.NewSource(2))
	for _, size := range []int{8, 63, 200} {
		for _, d := range []*disk.Disk{made(t, size), junk(t, r, size), formatted(t, size), busy(t, size), cached(t, size)} {
			for range 2 {
				mustBe(t, "Format", pager.Format(d), api.OK)
				p := mustOpen(t, d)
				mustTell(t, p, 1, 0, upTo(2+least(size-2), size)...)
				mustAdd(t, p, leaf("new"), 2+least(size-2))
				mustCommit(t, p)
			}
		}
	}
}

// busy is a disk of some commits, the last one with many pages.
func busy(t *testing.T, size int) *disk.Disk {
	t.Helper()
	d, p := opened(t, size)
	for range 9 {
		mustCommit(t, p)
	}
	for e := api.OK; e == api.OK; {
		_, e = p.Add(leaf("old"))
	}
	p.SetRoot(4)
	mustCommit(t, p)
	return d
}

// cached is a disk with a newer commit's pages in its cache.
func cached(t *testing.T, size int) *disk.Disk {
	t.Helper()
	d := formatted(t, size)
	for _, o := range []op{{1, metaBytes(9, 3, 4, size)}, {4, spareBytes(9, 0, 5)}, {size - 1, spareBytes(9, 0)}} {
		mustBe(t, "Write", d.Write(o.page, o.bytes), api.OK)
	}
	return d
}

// TestFormatOrder: P7.1, in which order it writes: with a fuse of n the first n are in the cache.
func TestFormatOrder(t *testing.T) {
	r := rand.New(rand.NewSource(3))
	for _, size := range []int{8, 63, 130} {
		ops := formatOps(size)
		for fuse := range len(ops) + 2 {
			d := junk(t, r, size)
			s := storeOf(t, d)
			d.Fuse(fuse)
			mustBe(t, "Format", pager.Format(d), s.run(ops, fuse))
			mustCache(t, d, s)
		}
	}
}

// mustCache asks for what is in a disk's cache, and what a crash makes of it that keeps all.
func mustCache(t *testing.T, d *disk.Disk, s *store) {
	t.Helper()
	var ids []int
	var keep []disk.Keep
	for id := range s.on {
		if _, written := s.in[id]; written {
			ids = append(ids, id)
		}
		keep = append(keep, disk.Keep{Page: id, Bytes: 256})
	}
	if got := d.Cached(); !slices.Equal(got, ids) {
		t.Fatalf("in the cache: %v; want %v", got, ids)
	}
	c := d.Copy()
	c.Crash(keep...)
	mustHave(t, "with the cache", c, s)
	c = d.Copy()
	c.Crash()
	mustHave(t, "without the cache", c, &store{on: s.on})
}
