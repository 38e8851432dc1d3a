package disk_test

import (
	"math"
	"slices"
	"testing"

	"terrier/api"
	"terrier/disk"
)

// TestTorn: P3.2, the first bytes that are kept are new, the rest is as it was.
func TestTorn(t *testing.T) {
	d := made(t, 8)
	mustWrite(t, d, 3, full(1))
	d.Crash(disk.Keep{Page: 3, Bytes: 2})
	mustRead(t, d, 3, torn(1, 2, 0))
	for _, c := range []struct{ say, kept int }{
		{math.MinInt, 0}, {-256, 0}, {-1, 0}, {0, 0}, {1, 1}, {2, 2}, {128, 128}, {255, 255},
		{256, 256}, {257, 256}, {512, 256}, {1 << 32, 256}, {math.MaxInt, 256},
	} {
		d := made(t, 8)
		mustWrite(t, d, 0, full(4))
		mustWrite(t, d, 7, full(5))
		mustSync(t, d)
		mustWrite(t, d, 0, full(6))
		mustWrite(t, d, 7, full(7))
		mustWrite(t, d, 6, full(8))
		d.Crash(disk.Keep{Page: 7, Bytes: c.say})
		mustCached(t, d)
		mustRead(t, d, 0, full(4))
		mustRead(t, d, 6, full(0))
		mustRead(t, d, 7, torn(7, c.kept, 5))
		d.Crash() // what is kept stands on the disk
		mustRead(t, d, 7, torn(7, c.kept, 5))
	}
}

// TestCrashOfNothing: P3.2, what nothing is said of is lost, all of it.
func TestCrashOfNothing(t *testing.T) {
	for _, keep := range [][]disk.Keep{nil, {}, {{Page: 5, Bytes: 256}}, {{Page: -1, Bytes: 256}, {Page: 8, Bytes: 256}}, {{}}} {
		d := made(t, 8)
		mustWrite(t, d, 1, full(1))
		mustWrite(t, d, 2, full(1))
		mustSync(t, d)
		mustWrite(t, d, 2, full(2))
		mustWrite(t, d, 3, full(2))
		mustWrite(t, d, 2, full(3))
		d.Crash(keep...)
		mustCached(t, d)
		for page, c := range []byte{0, 1, 1, 0, 0, 0, 0, 0} {
			mustRead(t, d, page, full(c))
		}
		mustSync(t, d)
		mustRead(t, d, 2, full(1))
		mustRead(t, d, 3, full(0))
	}
}

// TestCrashElsewhere: P3.2, of a page that isn't in the cache it says nothing, of no page neither.
func TestCrashElsewhere(t *testing.T) {
	d := made(t, 8)
	mustWrite(t, d, 4, full(1))
	mustSync(t, d)
	mustWrite(t, d, 5, full(2))
	keep := []disk.Keep{{Page: 4, Bytes: 100}, {Page: 0, Bytes: 256}, {Page: 5, Bytes: 3}}
	for _, page := range wrongPages(8) {
		keep = append(keep, disk.Keep{Page: page, Bytes: 256})
	}
	d.Crash(keep...)
	mustRead(t, d, 0, full(0))
	mustRead(t, d, 4, full(1))
	mustRead(t, d, 5, torn(2, 3, 0))
}

// TestCrashTwiceSaid: P3.2, of several of one page the last one counts.
func TestCrashTwiceSaid(t *testing.T) {
	for _, c := range []struct{ first, second, kept int }{
		{2, 5, 5}, {5, 2, 2}, {256, 0, 0}, {0, 256, 256}, {9, -1, 0}, {-1, 9, 9}, {9, 300, 256}, {300, 9, 9},
	} {
		d := made(t, 8)
		mustWrite(t, d, 2, full(1))
		mustWrite(t, d, 3, full(2))
		d.Crash(disk.Keep{Page: 2, Bytes: c.first}, disk.Keep{Page: 3, Bytes: 7}, disk.Keep{Page: 2, Bytes: 77}, disk.Keep{Page: 2, Bytes: c.second})
		mustRead(t, d, 2, torn(1, c.kept, 0))
		mustRead(t, d, 3, torn(2, 7, 0))
	}
}

// TestCrashFuse: P3.2, behind a crash it isn't dead and has no fuse, whatever it had.
func TestCrashFuse(t *testing.T) {
	for _, fuse := range []int{-1, 0, 1, 2, 50} {
		d := made(t, 8)
		d.Fuse(fuse)
		if fuse > 0 {
			mustWrite(t, d, 1, full(1))
		}
		d.Crash()
		for n := range 200 {
			mustWrite(t, d, n%8, full(byte(n)))
			mustSync(t, d)
		}
	}
}

// TestCrashKeepsNoRow: P3.3, what a crash is handed is neither changed nor kept.
func TestCrashKeepsNoRow(t *testing.T) {
	room := []disk.Keep{{Page: 1, Bytes: 300}, {Page: 1, Bytes: -4}, {Page: 9, Bytes: 9}, {Page: 2, Bytes: 2}}
	was := slices.Clone(room)
	d := made(t, 8)
	mustWrite(t, d, 1, full(1))
	d.Crash(room[:2]...)
	if !slices.Equal(room, was) {
		t.Errorf("Crash: %v, was %v", room, was)
	}
	for i := range room {
		room[i] = disk.Keep{Page: 1, Bytes: 256}
	}
	mustWrite(t, d, 1, full(1))
	d.Crash()
	mustRead(t, d, 1, full(0))
}

// TestMemory: P3.3, what is written isn't kept, what is read or told is new memory.
func TestMemory(t *testing.T) {
	d := made(t, 8)
	room := append(full(1), full(2)...)
	mustWrite(t, d, 3, room[:api.PageSize])
	if !slices.Equal(room, append(full(1), full(2)...)) {
		t.Error("Write changes what it is handed")
	}
	spoil(room)
	mustRead(t, d, 3, full(1))
	for range 2 { // in the cache, then on the disk
		a, _ := d.Read(3)
		b, _ := d.Read(3)
		spoil(a)
		if !slices.Equal(b, full(1)) {
			t.Error("two reads share memory")
		}
		mustRead(t, d, 3, full(1))
		mustSync(t, d)
	}
	spoilt, _ := d.Read(4)
	spoil(spoilt)
	mustRead(t, d, 4, full(0))
	mustWrite(t, d, 4, full(4))
	mustWrite(t, d, 5, full(5))
	told := d.Cached()
	told = told[:cap(told)]
	for i := range told {
		told[i] = 77
	}
	mustCached(t, d, 4, 5)
	d.Crash(disk.Keep{Page: 4, Bytes: 256})
	mustRead(t, d, 4, full(4))
	mustRead(t, d, 5, full(0))
}

// TestMemoryOfSynced: P3.3, a row that was written and synced may be written over.
func TestMemoryOfSynced(t *testing.T) {
	d := made(t, 8)
	row := full(1)
	mustWrite(t, d, 3, row)
	mustSync(t, d)
	spoil(row)
	mustRead(t, d, 3, full(1))
	mustWrite(t, d, 3, full(2))
	d.Crash(disk.Keep{Page: 3, Bytes: 256})
	mustRead(t, d, 3, full(2))
}

// TestCopy: P3.2, with the same in it.
func TestCopy(t *testing.T) {
	d := made(t, 9)
	mustWrite(t, d, 1, full(1))
	mustSync(t, d)
	mustWrite(t, d, 1, full(2))
	mustWrite(t, d, 8, full(3))
	d.Fuse(2)
	c := d.Copy()
	if c == nil || c == d {
		t.Fatal("Copy:", c)
	}
	if c.Size() != 9 {
		t.Error("Size of the copy:", c.Size())
	}
	mustDone(t, c, 4)
	mustCached(t, c, 1, 8)
	mustRead(t, c, 0, full(0))
	mustRead(t, c, 1, full(2))
	mustRead(t, c, 8, full(3))
	twice := c.Copy()
	mustWrite(t, c, 2, full(4))
	mustWrite(t, c, 2, full(4))
	mustDead(t, c)
	twice.Crash(disk.Keep{Page: 8, Bytes: 3})
	mustRead(t, twice, 1, full(1))
	mustRead(t, twice, 8, torn(3, 3, 0))
	mustDone(t, twice, 4)
}

// TestCopyApart: P3.2, what is done to the one is not seen in the other.
func TestCopyApart(t *testing.T) {
	for _, turned := range []bool{false, true} {
		d := made(t, 8)
		mustWrite(t, d, 1, full(1))
		mustWrite(t, d, 2, full(1))
		mustSync(t, d)
		mustWrite(t, d, 2, full(2))
		mustWrite(t, d, 3, full(2))
		c := d.Copy()
		if turned {
			c, d = d, c
		}
		mustWrite(t, c, 1, full(3))
		mustWrite(t, c, 2, full(3))
		mustWrite(t, c, 7, full(3))
		mustSame(t, d)
		mustSync(t, c)
		mustSame(t, d)
		mustWrite(t, c, 2, full(4))
		c.Crash(disk.Keep{Page: 2, Bytes: 100})
		mustSame(t, d)
		c.Fuse(0)
		mustSame(t, d)
		mustDead(t, c)
		d.Crash()
		mustRead(t, d, 1, full(1))
		mustRead(t, d, 2, full(1))
		mustRead(t, d, 3, full(0))
		mustDead(t, c)
	}
}

// mustSame asks that a disk is as TestCopyApart made it.
func mustSame(t *testing.T, d *disk.Disk) {
	t.Helper()
	mustDone(t, d, 5)
	mustCached(t, d, 2, 3)
	for page, c := range []byte{0, 1, 2, 2, 0, 0, 0, 0} {
		mustRead(t, d, page, full(c))
	}
}
