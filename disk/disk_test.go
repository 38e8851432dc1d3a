package disk_test

import (
	"bytes"
	"math"
	"slices"
	"testing"

	"terrier/api"
	"terrier/disk"
)

// full is a page's bytes, all of them c.
func full(c byte) []byte { return bytes.Repeat([]byte{c}, api.PageSize) }

// torn is a page whose n first bytes are c and whose others are rest.
func torn(c byte, n int, rest byte) []byte {
	return append(bytes.Repeat([]byte{c}, n), bytes.Repeat([]byte{rest}, api.PageSize-n)...)
}

// spoil writes over a row, its spare room too; twice is not as ahead of it.
func spoil(b []byte) {
	b = b[:cap(b)]
	for i := range b {
		b[i] += 0x35
	}
}

// made is a disk of so many pages.
func made(t *testing.T, pages int) *disk.Disk {
	t.Helper()
	d := disk.New(pages)
	if d == nil {
		t.Fatalf("New(%d): nil", pages)
	}
	return d
}

// mustRead asks that a page reads so.
func mustRead(t *testing.T, d *disk.Disk, page int, want []byte) {
	t.Helper()
	if b, e := d.Read(page); e != api.OK || !bytes.Equal(b, want) {
		t.Fatalf("Read(%d): % x, %d; want % x", page, b, e, want)
	}
}

// mustWrite asks that a page is written.
func mustWrite(t *testing.T, d *disk.Disk, page int, b []byte) {
	t.Helper()
	if e := d.Write(page, b); e != api.OK {
		t.Fatalf("Write(%d): %d", page, e)
	}
}

// mustSync asks that a sync is done.
func mustSync(t *testing.T, d *disk.Disk) {
	t.Helper()
	if e := d.Sync(); e != api.OK {
		t.Fatalf("Sync: %d", e)
	}
}

// mustCached asks that these pages are in the cache.
func mustCached(t *testing.T, d *disk.Disk, want ...int) {
	t.Helper()
	if got := d.Cached(); !slices.Equal(got, want) {
		t.Fatalf("Cached: %v; want %v", got, want)
	}
}

// mustDone asks that so many writes and syncs were done.
func mustDone(t *testing.T, d *disk.Disk, want int) {
	t.Helper()
	if got := d.Done(); got != want {
		t.Fatalf("Done: %d; want %d", got, want)
	}
}

// mustBe asks for this error of a write, and of a sync of which nobody would know otherwise.
func mustBe(t *testing.T, what string, got, want api.Errno) {
	t.Helper()
	if got != want {
		t.Fatalf("%s: %d; want %d", what, got, want)
	}
}

// mustFail asks that a read has this error, and tells nothing beside it.
func mustFail(t *testing.T, d *disk.Disk, page int, want api.Errno) {
	t.Helper()
	if b, e := d.Read(page); e != want || len(b) != 0 {
		t.Fatalf("Read(%d): % x, %d; want %d", page, b, e, want)
	}
}

// wrongPages are numbers of no page of a disk of so many.
func wrongPages(pages int) []int {
	return []int{math.MinInt, math.MinInt32, -pages, -1, pages, pages + 1, 2 * pages, 1 << 32, math.MaxInt}
}

// TestNew: P3.1, how many pages a disk may have.
func TestNew(t *testing.T) {
	for _, pages := range []int{math.MinInt, -8, -1, 0, 1, 7, 1025, 1026, 1 << 32, math.MaxInt} {
		if disk.New(pages) != nil {
			t.Errorf("New(%d) isn't nil", pages)
		}
	}
	for _, pages := range []int{8, 9, 100, 1023, 1024} {
		d := made(t, pages)
		if d.Size() != pages {
			t.Errorf("Size of %d pages: %d", pages, d.Size())
		}
		for page := range pages {
			mustRead(t, d, page, full(0))
		}
		mustCached(t, d)
		mustDone(t, d, 0)
	}
}

// TestNoFuseAtFirst: P3.1, a new disk has no fuse.
func TestNoFuseAtFirst(t *testing.T) {
	d := made(t, 8)
	for n := range 5000 {
		mustWrite(t, d, n%8, full(byte(n)))
		if n%3 == 0 {
			mustSync(t, d)
		}
	}
}

// TestRead: P3.1, a read sees what was written, synced or not, and only there.
func TestRead(t *testing.T) {
	for _, pages := range []int{8, 1024} {
		d := made(t, pages)
		for _, page := range []int{0, 1, 5, pages - 2, pages - 1} {
			row := full(0)
			for i := range row {
				row[i] = byte(i + page)
			}
			mustWrite(t, d, page, row)
			mustRead(t, d, page, row)
			mustSync(t, d)
			mustRead(t, d, page, row)
		}
		mustRead(t, d, 2, full(0))
		mustWrite(t, d, 5, full(1))
		mustWrite(t, d, 5, full(2))
		mustRead(t, d, 5, full(2))
		mustSync(t, d)
		mustRead(t, d, 5, full(2))
	}
}

// TestWrongPage: P3.1, ErrRange, ahead of ErrForm; nothing is done.
func TestWrongPage(t *testing.T) {
	for _, pages := range []int{8, 1024} {
		d := made(t, pages)
		d.Fuse(1)
		for _, page := range wrongPages(pages) {
			mustFail(t, d, page, api.ErrRange)
			mustBe(t, "a write of no page", d.Write(page, full(1)), api.ErrRange)
			mustBe(t, "a write of no page and no bytes", d.Write(page, nil), api.ErrRange)
		}
		mustCached(t, d)
		mustDone(t, d, 0)
		mustWrite(t, d, 0, full(1)) // the fuse is as it was
		mustFail(t, d, 0, api.ErrDead)
	}
}

// TestWrongBytes: P3.1, ErrForm; nothing is done.
func TestWrongBytes(t *testing.T) {
	d := made(t, 8)
	mustWrite(t, d, 3, full(7))
	mustSync(t, d)
	d.Fuse(1)
	for _, n := range []int{0, 1, 255, 257, 512} {
		mustBe(t, "a write of other bytes", d.Write(3, make([]byte, n)), api.ErrForm)
		mustBe(t, "a write of other bytes with room behind them", d.Write(3, make([]byte, n, 1024)), api.ErrForm)
	}
	mustBe(t, "a write of nil", d.Write(3, nil), api.ErrForm)
	mustRead(t, d, 3, full(7))
	mustCached(t, d)
	mustDone(t, d, 2)
	mustWrite(t, d, 3, full(8)) // the fuse is as it was
	mustBe(t, "a write behind the fuse", d.Write(3, full(9)), api.ErrDead)
}

// TestSync: P3.1 and P3.3, what is synced stays, whatever crashes, till it is written again.
func TestSync(t *testing.T) {
	d := made(t, 8)
	mustWrite(t, d, 1, full(1))
	mustWrite(t, d, 2, full(2))
	mustCached(t, d, 1, 2)
	mustSync(t, d)
	mustCached(t, d)
	d.Crash()
	d.Crash(disk.Keep{Page: 1, Bytes: 256}, disk.Keep{Page: 2, Bytes: 7}, disk.Keep{Page: 3, Bytes: 7})
	mustRead(t, d, 1, full(1))
	mustRead(t, d, 2, full(2))
	mustRead(t, d, 3, full(0))
	mustWrite(t, d, 2, full(3))
	mustRead(t, d, 2, full(3))
	d.Crash()
	mustRead(t, d, 1, full(1))
	mustRead(t, d, 2, full(2))
	mustSync(t, d) // of nothing, which is done all the same
	mustRead(t, d, 2, full(2))
	mustDone(t, d, 5)
}

// TestFuse: P3.2, writes and syncs burn it, reads and what isn't done don't.
func TestFuse(t *testing.T) {
	d := made(t, 8)
	d.Fuse(1)
	mustBe(t, "the first write", d.Write(3, full(1)), api.OK)
	mustBe(t, "the second write", d.Write(3, full(2)), api.ErrDead)
	for n := range 6 {
		d := made(t, 8)
		d.Fuse(n)
		for i := range n {
			mustBe(t, "a write of no page", d.Write(8, full(1)), api.ErrRange)
			mustBe(t, "a write of no bytes", d.Write(0, nil), api.ErrForm)
			mustRead(t, d, 7, full(0))
			if i%2 == 0 {
				mustWrite(t, d, i, full(1))
			} else {
				mustSync(t, d)
			}
		}
		mustDead(t, d)
		mustDone(t, d, n)
	}
}

// mustDead asks that every call of a dead disk that may have ErrDead has it, ahead of all its other errors.
func mustDead(t *testing.T, d *disk.Disk) {
	t.Helper()
	was := d.Cached()
	done := d.Done()
	for _, page := range append(wrongPages(d.Size()), 0, d.Size()-1) {
		mustFail(t, d, page, api.ErrDead)
		mustBe(t, "a write on a dead disk", d.Write(page, full(9)), api.ErrDead)
		mustBe(t, "a write of nil on a dead disk", d.Write(page, nil), api.ErrDead)
	}
	mustBe(t, "a sync on a dead disk", d.Sync(), api.ErrDead)
	mustCached(t, d, was...)
	mustDone(t, d, done)
}

// TestDeadStays: P3.2, no fuse wakes a dead disk; a crash does.
func TestDeadStays(t *testing.T) {
	d := made(t, 8)
	mustWrite(t, d, 3, full(1))
	d.Fuse(0)
	mustDead(t, d)
	for _, n := range []int{-1, math.MinInt, 0, 1, 5, math.MaxInt} {
		d.Fuse(n)
		mustDead(t, d)
	}
	if d.Size() != 8 {
		t.Error("Size of a dead disk:", d.Size())
	}
	mustDead(t, d.Copy())
	mustCached(t, d, 3)
	d.Crash(disk.Keep{Page: 3, Bytes: 1})
	mustRead(t, d, 3, torn(1, 1, 0))
	for n := range 100 { // there is no fuse, neither the old one nor that of the dead disk
		mustWrite(t, d, n%8, full(2))
	}
}

// TestFuseInPlace: P3.2, a fuse takes the place of another one; below 0 there is none.
func TestFuseInPlace(t *testing.T) {
	for _, none := range []int{-1, -2, math.MinInt} {
		d := made(t, 8)
		d.Fuse(2)
		mustWrite(t, d, 0, full(1))
		d.Fuse(none)
		for range 10 {
			mustSync(t, d)
		}
	}
	for _, c := range []struct{ old, first, fuse int }{{1, 0, 3}, {5, 2, 1}, {5, 3, 2}, {2, 1, 2}, {math.MaxInt, 4, 1}, {-1, 4, 1}} {
		d := made(t, 8)
		d.Fuse(c.old)
		for range c.first {
			mustSync(t, d)
		}
		d.Fuse(c.fuse)
		for range c.fuse {
			mustSync(t, d)
		}
		mustDead(t, d)
	}
	d := made(t, 8)
	d.Fuse(math.MaxInt)
	d.Fuse(0)
	mustDead(t, d)
}

// TestCached: P3.2, rising, whatever the order of the writes; a write of what is there counts too.
func TestCached(t *testing.T) {
	d := made(t, 1024)
	for _, page := range []int{700, 3, 1023, 0, 3, 512, 700} {
		mustWrite(t, d, page, full(0))
	}
	mustCached(t, d, 0, 3, 512, 700, 1023)
	mustSync(t, d)
	mustCached(t, d)
	mustWrite(t, d, 512, full(0))
	mustCached(t, d, 512)
	d.Crash(disk.Keep{Page: 512, Bytes: 256})
	mustCached(t, d)
	for page := range 1024 {
		mustWrite(t, d, 1023-page, full(1))
	}
	got := d.Cached()
	if len(got) != 1024 || !slices.IsSorted(got) {
		t.Errorf("Cached, of all pages: %v", got)
	}
}

// TestDone: P3.2, ever: behind syncs, crashes and a new fuse it goes on.
func TestDone(t *testing.T) {
	d := made(t, 8)
	mustDone(t, d, 0)
	mustWrite(t, d, 1, full(1))
	mustDone(t, d, 1)
	mustWrite(t, d, 1, full(1))
	mustDone(t, d, 2)
	mustSync(t, d)
	mustSync(t, d)
	mustDone(t, d, 4)
	d.Crash()
	mustDone(t, d, 4)
	mustRead(t, d, 1, full(1))
	d.Fuse(1)
	mustDone(t, d, 4)
	mustSync(t, d)
	mustBe(t, "behind the fuse", d.Sync(), api.ErrDead)
	mustDone(t, d, 5)
	d.Crash(disk.Keep{Page: 1, Bytes: 1})
	mustWrite(t, d, 1, full(2))
	mustDone(t, d, 6)
}

// TestNil: P3.2, a disk that isn't there.
func TestNil(t *testing.T) {
	var d *disk.Disk
	for _, page := range []int{0, 1, -1, 7, 8, math.MaxInt} {
		mustFail(t, d, page, api.ErrArg)
		mustBe(t, "a write on nil", d.Write(page, full(1)), api.ErrArg)
		mustBe(t, "a write of nil on nil", d.Write(page, nil), api.ErrArg)
	}
	mustBe(t, "a sync of nil", d.Sync(), api.ErrArg)
	d.Fuse(0)
	d.Fuse(1)
	d.Crash()
	d.Crash(disk.Keep{Page: 1, Bytes: 1})
	if d.Size() != 0 || d.Done() != 0 || len(d.Cached()) != 0 || d.Copy() != nil {
		t.Error("nil:", d.Size(), d.Done(), d.Cached(), d.Copy())
	}
}
