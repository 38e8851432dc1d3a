package db_test

import (
	"testing"

	"terrier/api"
	"terrier/db"
	"terrier/disk"
	"terrier/meta"
)

// mustNotOpen asks that Open, and, if create isn't OK, Create too, tell these errors, and no database.
func mustNotOpen(t *testing.T, what string, d *disk.Disk, open, create api.Errno) {
	t.Helper()
	if b, e := db.Open(d); b != nil || e != open {
		t.Fatalf("%s: Open: %v, %d; want %d", what, b, e, open)
	}
	if create == api.OK {
		return
	}
	if b, e := db.Create(d); b != nil || e != create {
		t.Fatalf("%s: Create: %v, %d; want %d", what, b, e, create)
	}
}

// TestExample: the chapter's example.
func TestExample(t *testing.T) {
	d := disk.New(8)
	b, e := db.Create(d)
	mustBe(t, "Create", e, api.OK)
	mustBe(t, "Put", b.Put("b", []byte("k"), []byte("v")), api.OK)
	mustBe(t, "Commit", b.Commit(), api.OK)
	d.Crash()
	b, e = db.Open(d)
	mustBe(t, "Open", e, api.OK)
	if v, found, e := b.Get("b", []byte("k")); string(v) != "v" || !found || e != api.OK {
		t.Fatalf("Get: %q, %v, %d", v, found, e)
	}
	mustBe(t, "Put of no name", b.Put("", []byte("k"), []byte("v")), api.ErrArg)
}

// TestSizes: P9.1, P9.2, disks of all sizes at which something changes: an empty database, then a bucket, committed.
func TestSizes(t *testing.T) {
	for _, size := range []int{8, 9, 61, 62, 63, 200, 1023, 1024} {
		w := twinOf(t, size)
		w.mustTell(t, "behind Create")
		w.reopen(t)
		w.put(t, "b", "k", []byte("v"))
		if got := w.b.Pages(); got != 2 {
			t.Fatalf("%d pages for the names and a bucket", got)
		}
		w.mustTell(t, "behind Put")
		w.commit(t)
		w.reopen(t)
		w.delete(t, "b", "k")
		w.mustTell(t, "behind Delete")
		w.commit(t)
		w.reopen(t)
		b, e := db.Create(w.d)
		mustBe(t, "Create anew", e, api.OK)
		w.b, w.now, w.base, w.txn = b, nil, nil, 1
		w.mustTell(t, "behind Create anew")
		w.reopen(t)
	}
}

// TestCreateAnew: P9.1, what was there is gone.
func TestCreateAnew(t *testing.T) {
	w := twinOf(t, 60)
	for i := range 6 {
		w.put(t, wide(i), long(i), text(i, 300))
		w.commit(t)
	}
	b, e := db.Create(w.d)
	mustBe(t, "Create", e, api.OK)
	w.b, w.now, w.base, w.txn = b, nil, nil, 1
	w.mustTell(t, "behind Create")
	for i := range 6 {
		w.mustGet(t, wide(i), long(i))
	}
	w.reopen(t)
}

// TestNoDisk: P9.1, a nil disk, a dead one, one that wasn't formatted, ones that were spoilt: nil beside the error.
func TestNoDisk(t *testing.T) {
	mustNotOpen(t, "nil", nil, api.ErrArg, api.ErrArg)
	for _, size := range []int{7, 1025} {
		mustNotOpen(t, "no disk", disk.New(size), api.ErrArg, api.ErrArg)
	}
	d := disk.New(8)
	d.Fuse(0)
	mustNotOpen(t, "a dead new disk", d, api.ErrDead, api.ErrDead)
	mustNotOpen(t, "a new disk", disk.New(8), api.ErrNone, api.OK)
	w := twinOf(t, 60)
	w.put(t, "b", "k", text(1, 300))
	w.commit(t)
	dead := w.d.Copy()
	dead.Fuse(0)
	mustNotOpen(t, "a dead disk", dead, api.ErrDead, api.ErrDead)
	for _, spoilt := range [][]byte{make([]byte, 256), text(3, 256)} {
		both := w.d.Copy()
		for id := range 2 {
			mustBe(t, "Write", both.Write(id, spoilt), api.OK)
		}
		mustNotOpen(t, "both metas spoilt", both, api.ErrNone, api.OK)
	}
	chain := w.d.Copy()
	for id := 2; id < 60; id++ { // one of which is the chain's
		mustBe(t, "Write", chain.Write(id, make([]byte, 256)), api.OK)
	}
	mustNotOpen(t, "a chain that is spoilt", chain, api.ErrSum, api.OK)
	other, e := meta.Encode(meta.Meta{Txn: 9, Size: 61})
	mustBe(t, "meta.Encode", e, api.OK)
	size := w.d.Copy()
	mustBe(t, "Write", size.Write(1, other), api.OK)
	mustNotOpen(t, "another disk's meta", size, api.ErrForm, api.OK)
	for _, d := range []*disk.Disk{chain, size} {
		b, e := db.Create(d)
		mustBe(t, "Create", e, api.OK)
		mustHave(t, "behind Create", b, nil)
	}
}

// TestCreateDies: P9.1, the power goes in Create: nil, and the disk's error.
func TestCreateDies(t *testing.T) {
	for _, size := range []int{8, 61, 130} {
		chain := (size - 2 + 59) / 60
		for fuse := range chain + 4 { // both metas, the chain, a sync; then it is read
			d := disk.New(size)
			d.Fuse(fuse)
			if b, e := db.Create(d); b != nil || e != api.ErrDead {
				t.Fatalf("Create of %d pages with a fuse of %d: %v, %d", size, fuse, b, e)
			}
		}
		d := disk.New(size)
		d.Fuse(chain + 4)
		b, e := db.Create(d)
		mustBe(t, "Create", e, api.OK)
		mustHave(t, "Create with a fuse that is long enough", b, nil)
	}
}

// TestTxn: P9.2, 1 behind Create, one more behind each Commit, the same behind Open.
func TestTxn(t *testing.T) {
	w := twinOf(t, 20)
	for i := range 9 {
		if got := w.b.Txn(); got != uint64(1+i) {
			t.Fatalf("Txn behind %d commits: %d", i, got)
		}
		if i%3 == 1 {
			w.put(t, "b", string(rune('a'+i)), nil)
		}
		w.commit(t)
		if i%2 == 0 {
			w.reopen(t)
		}
	}
}
