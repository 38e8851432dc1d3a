package db_test

import (
	"fmt"
	"slices"
	"testing"

	"terrier/api"
	"terrier/db"
	"terrier/disk"
	"terrier/pager"
)

// mustCopy copies a database, and asks that the copy has the same, committed, and that the one that was copied is as it was.
func (w *twin) mustCopy(t *testing.T, d *disk.Disk) *twin {
	t.Helper()
	was := tells(t, w.b)
	b, e := w.b.Copy(d)
	mustBe(t, "Copy", e, api.OK)
	was.mustStay(t, "behind Copy", w.b)
	w.mustTell(t, "behind Copy")
	c := &twin{d: d, b: b, now: w.now, base: w.now, txn: 2}
	c.mustTell(t, "the copy")
	c.mustStand(t, b.Pages())
	c.mustKnow(t)
	c.reopen(t)
	c.mustKnow(t)
	return c
}

// mustKnow asks for each key of the buckets.
func (w *twin) mustKnow(t *testing.T) {
	t.Helper()
	for _, s := range w.now {
		for _, pair := range s.list {
			w.mustGet(t, s.name, string(pair.Key))
		}
	}
}

// mustBeApart asks that what is done to the one isn't seen in the other.
func mustBeApart(t *testing.T, a, b *twin) {
	t.Helper()
	for i, one := range []*twin{a, b, a, b} {
		one.put(t, fmt.Sprint("new", i), "k", text(i, 300))
		for _, s := range slices.Clone(one.now)[:min(2, len(one.now))] {
			one.put(t, s.name, string(s.list[0].Key), text(i, 70))
			one.delete(t, s.name, string(s.list[len(s.list)-1].Key))
		}
		a.mustTell(t, "the one")
		b.mustTell(t, "the other one")
		if i > 1 {
			one.commit(t)
		}
		a.mustTell(t, "the one")
		b.mustTell(t, "the other one")
	}
	a.reopen(t)
	b.reopen(t)
}

// TestCopy: P9.3, to disks of the same, of a greater and of a smaller size, new or not, of what is committed and of what isn't.
func TestCopy(t *testing.T) {
	for _, size := range []int{110, 149, 150, 151, 184, 1024} {
		for n := range 3 {
			w := rich(t)
			w.put(t, "long", "k", text(1, 4096))
			w.put(t, "long", "", nil)
			w.delete(t, wide(5), "k")
			if n == 0 {
				w.commit(t)
			}
			d := disk.New(size)
			if n == 2 {
				other := twinOf(t, size)
				other.put(t, "other", "k", text(1, 900))
				other.commit(t)
				d = other.d
			}
			mustBeApart(t, w, w.mustCopy(t, d))
		}
	}
}

// TestCopyOfNothing: P9.3, of an empty database, and of one with one key.
func TestCopyOfNothing(t *testing.T) {
	for _, size := range []int{8, 60, 1024} {
		w := twinOf(t, size)
		mustBeApart(t, w.mustCopy(t, disk.New(60)), w.mustCopy(t, disk.New(60)))
		w.put(t, "b", "", nil)
		w.mustCopy(t, disk.New(8))
		w.commit(t)
		c := w.mustCopy(t, disk.New(8)).mustCopy(t, disk.New(61))
		c.delete(t, "b", "")
		c.commit(t)
		w.mustTell(t, "behind all")
	}
}

// TestCopyOfMany: P9.3, of many buckets, and of great ones; a copy isn't greater than what was copied.
func TestCopyOfMany(t *testing.T) {
	w := twinOf(t, 1024)
	for i := range 100 {
		w.put(t, wide(i*37%100), fmt.Sprint(i), text(i, i))
	}
	for i := range 200 {
		w.put(t, wide(i%2), long(i*77%200), text(i, []int{64, 300}[i/100]))
	}
	w.commit(t)
	c := w.mustCopy(t, disk.New(1024))
	if got, most := c.b.Pages(), w.b.Pages(); got > most {
		t.Fatalf("the copy has %d pages, of %d", got, most)
	}
	for i := range 200 {
		w.delete(t, wide(i%2), long(i*77%200))
	}
	c.mustTell(t, "the copy")
	w.mustCopy(t, disk.New(300))
}

// TestCopyOfFull: P9.3, of a disk that was filled at once, to one of the same size.
func TestCopyOfFull(t *testing.T) {
	for _, size := range []int{8, 20, 61, 62, 130, 200} {
		for _, length := range []int{0, 40, 64, 300, 1000} {
			w := twinOf(t, size)
			w.fill(t, 4, length, 1<<20)
			w.mustCopy(t, disk.New(size))
		}
	}
}

// mustNotCopy asks that there is no copy, for this reason, and that the database is as it was.
func (w *twin) mustNotCopy(t *testing.T, what string, d *disk.Disk, want api.Errno) {
	t.Helper()
	was := tells(t, w.b)
	if c, e := w.b.Copy(d); c != nil || e != want {
		t.Fatalf("%s: Copy: %v, %d; want %d", what, c, e, want)
	}
	was.mustStay(t, what, w.b)
}

// TestNoCopy: P9.3, to a disk that is too small, nil or dead, or that dies in it: nil, the error, and the database is as it was. Behind it one may copy there still.
func TestNoCopy(t *testing.T) {
	w := rich(t)
	w.put(t, "b", "k", text(1, 500))
	pages := w.b.Pages()
	for size := 8; size < pages+2; size += 7 {
		w.mustNotCopy(t, "too small", disk.New(size), api.ErrNoSpace)
	}
	w.mustNotCopy(t, "nil", nil, api.ErrArg)
	dead := disk.New(100)
	dead.Fuse(0)
	w.mustNotCopy(t, "dead", dead, api.ErrDead)
	d := disk.New(100)
	fuse := 0
	for ; ; fuse++ {
		d.Fuse(fuse)
		c, e := w.b.Copy(d)
		if e == api.OK {
			break
		}
		if mustBe(t, "Copy", e, api.ErrDead); c != nil {
			t.Fatal("a copy beside an error")
		}
		w.mustTell(t, "behind no Copy")
		d.Crash()
	}
	if want := 2 + 2 + 1 + pages; fuse < want-10 || fuse > want+10 {
		t.Fatalf("a copy of %d pages took %d writes and syncs", pages, fuse)
	}
	d.Crash()
	b, e := db.Open(d)
	mustBe(t, "Open", e, api.OK)
	mustHave(t, "told OK", b, w.now)
	w.mustCopy(t, d)
	w.commit(t)
}

// TestNoCopyOfBroken: P9.3, R2, of a database that can't be read; where both have an error it is Create's.
func TestNoCopyOfBroken(t *testing.T) {
	for want, bad := range broken(t) {
		w := rich(t)
		p, e := pager.Open(w.d)
		mustBe(t, "pager.Open", e, api.OK)
		for _, id := range pagesOf(t, p, p.Root()) {
			spoil(t, w.d, id, bad, func() {
				w.mustNotCopy(t, "broken", disk.New(100), want)
				w.mustNotCopy(t, "broken, and no disk", nil, api.ErrArg)
				dead := disk.New(100)
				dead.Fuse(0)
				w.mustNotCopy(t, "broken, and a dead disk", dead, api.ErrDead)
			})
		}
		w.mustCopy(t, disk.New(100))
	}
	w := rich(t)
	w.d.Fuse(0)
	w.mustNotCopy(t, "a dead disk's", disk.New(100), api.ErrDead)
	w.mustNotCopy(t, "a dead disk's, and no disk", nil, api.ErrArg)
	w.d.Crash()
	w.mustCopy(t, disk.New(100))
}

// TestCopyOntoOwn: P9.3, R1, onto the disk on which the database itself stands: that has what it had then, whatever of it was committed.
func TestCopyOntoOwn(t *testing.T) {
	for _, committed := range []bool{true, false} {
		w := rich(t)
		w.put(t, "b", "k", text(1, 500))
		w.delete(t, wide(0), long(0))
		if committed {
			w.commit(t)
		}
		b, e := w.b.Copy(w.d)
		mustBe(t, "Copy", e, api.OK)
		c := &twin{d: w.d, b: b, now: w.now, base: w.now, txn: 2}
		c.mustTell(t, "the copy")
		c.mustStand(t, b.Pages())
		c.reopen(t)
		c.mustKnow(t)
		c.put(t, "c", "k", text(1, 500))
		c.commit(t)
	}
}
