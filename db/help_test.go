package db_test

import (
	"bytes"
	"fmt"
	"slices"
	"testing"

	"terrier/api"
	"terrier/db"
	"terrier/disk"
	"terrier/pager"
	"terrier/tree"
)

// mustBe asks for this error.
func mustBe(t *testing.T, what string, got, want api.Errno) {
	t.Helper()
	if got != want {
		t.Fatalf("%s: %d; want %d", what, got, want)
	}
}

// twin is a database and plain buckets, of which each is told the same.
type twin struct {
	d    *disk.Disk
	b    *db.DB
	now  plain
	base plain  // those of the last commit
	txn  uint64 // its number
}

// twinOf is one on a disk of so many pages.
func twinOf(t *testing.T, size int) *twin {
	t.Helper()
	d := disk.New(size)
	b, e := db.Create(d)
	mustBe(t, "Create", e, api.OK)
	return &twin{d: d, b: b, txn: 1}
}

// mustTell asks that the database has what the buckets have.
func (w *twin) mustTell(t *testing.T, what string) {
	t.Helper()
	mustHave(t, what, w.b, w.now)
	if got := w.b.Txn(); got != w.txn {
		t.Fatalf("%s: Txn: %d; want %d", what, got, w.txn)
	}
}

// mustHave asks for buckets, their keys and values, and that all is right.
func mustHave(t *testing.T, what string, b *db.DB, want plain) {
	t.Helper()
	if got, e := b.Buckets(); e != api.OK || !slices.Equal(got, want.names()) {
		t.Fatalf("%s: Buckets: %q, %d; want %q", what, got, e, want.names())
	}
	for _, s := range want {
		mustWalk(t, b, s.name, nil, nil, 0, s.list)
	}
	mustBe(t, what+": Check", b.Check(), api.OK)
	if got := b.Pages(); (got == 0) != (len(want) == 0) {
		t.Fatalf("%s: %d pages for %d buckets", what, got, len(want))
	}
}

// mustWalk asks what a Walk tells.
func mustWalk(t *testing.T, b *db.DB, name string, from, to []byte, limit int, want list) {
	t.Helper()
	if got, e := b.Walk(name, from, to, limit); e != api.OK || !samePairs(got, want) {
		t.Fatalf("Walk(%q, %q, %q, %d): %q, %d; want %q", name, from, to, limit, got, e, want)
	}
}

// mustGet asks for a key's value.
func mustGet(t *testing.T, b *db.DB, name, key string, want list) {
	t.Helper()
	value, found := want.get(key)
	if got, ok, e := b.Get(name, []byte(key)); e != api.OK || ok != found || !bytes.Equal(got, value) {
		t.Fatalf("Get(%q, %q): %q, %v, %d; want %q, %v", name, key, got, ok, e, value, found)
	}
}

// mustGet asks for a key's value in both.
func (w *twin) mustGet(t *testing.T, name, key string) {
	t.Helper()
	mustGet(t, w.b, name, key, w.now.of(name))
}

// put puts into both.
func (w *twin) put(t *testing.T, name, key string, value []byte) {
	t.Helper()
	mustBe(t, fmt.Sprintf("Put(%q, %q, %d bytes)", name, key, len(value)), w.b.Put(name, []byte(key), value), api.OK)
	w.now = w.now.put(name, key, value)
}

// delete deletes from both.
func (w *twin) delete(t *testing.T, name, key string) {
	t.Helper()
	_, want := w.now.of(name).get(key)
	if found, e := w.b.Delete(name, []byte(key)); found != want || e != api.OK {
		t.Fatalf("Delete(%q, %q): %v, %d; want %v", name, key, found, e, want)
	}
	w.now = w.now.delete(name, key)
}

// commit commits, and asks for what stands on the disk then.
func (w *twin) commit(t *testing.T) {
	t.Helper()
	pages := w.b.Pages()
	mustBe(t, "Commit", w.b.Commit(), api.OK)
	w.txn++
	w.base = w.now
	w.mustTell(t, "behind a commit")
	w.mustStand(t, pages)
}

// mustStand asks for what the last commit has on the disk, in so many pages.
func (w *twin) mustStand(t *testing.T, pages int) {
	t.Helper()
	q, n := onDisk(t, w.d)
	if !samePlain(q, w.base) {
		t.Fatalf("the disk has %q; want %q", q, w.base)
	}
	if got := w.b.Pages(); got != n || got != pages {
		t.Fatalf("Pages: %d behind the commit, %d ahead of it; want %d", got, pages, n)
	}
}

// samePlain: have they the same?
func samePlain(a, b plain) bool {
	return slices.EqualFunc(a, b, func(a, b shelf) bool { return a.name == b.name && samePairs(a.list, b.list) })
}

// reopen opens the disk behind a crash: all since the last commit is gone.
func (w *twin) reopen(t *testing.T) {
	t.Helper()
	w.d.Crash()
	b, e := db.Open(w.d)
	mustBe(t, "Open", e, api.OK)
	w.b, w.now = b, w.base
	w.mustTell(t, "behind an opening")
}

// told is all that a database tells.
type told struct {
	plain
	names []string
	pages int
	txn   uint64
	check api.Errno
}

// tells is what it tells now, of these buckets and of those that it has.
func tells(t *testing.T, b *db.DB, also ...string) told {
	t.Helper()
	names, _ := b.Buckets()
	out := told{names: names, pages: b.Pages(), txn: b.Txn(), check: b.Check()}
	for _, name := range slices.Concat(names, also) {
		l, _ := b.Walk(name, nil, nil, 0)
		out.plain = append(out.plain, shelf{name, l})
	}
	return out
}

// mustStay asks that a database tells what it told.
func (was told) mustStay(t *testing.T, what string, b *db.DB, also ...string) {
	t.Helper()
	now := tells(t, b, also...)
	if !samePlain(now.plain, was.plain) || !slices.Equal(now.names, was.names) || now.pages != was.pages || now.txn != was.txn || now.check != was.check {
		t.Fatalf("%s: it tells %+v; it told %+v", what, now, was)
	}
}

// text is so many bytes, which differ by n.
func text(n, length int) []byte {
	out := make([]byte, length)
	for i := range out {
		out[i] = byte(n + i*7 + i/256)
	}
	return out
}

// lengths are those of values at which something changes.
func lengths() []int { return []int{0, 1, 63, 64, 65, 237, 238, 474, 475, 1000, 4095, 4096} }

// long is a key of 32 bytes, that differs at its end alone.
func long(n int) string { return fmt.Sprintf("%032d", n) }

// wide is a bucket's name of 16 bytes.
func wide(n int) string { return fmt.Sprintf("%016d", n) }

// hand is a database made by hand: a pager, and the tree of names.
type hand struct {
	d     *disk.Disk
	p     *pager.Pager
	names int
}

// handOf is one without a bucket.
func handOf(t *testing.T, size int) *hand {
	t.Helper()
	d := disk.New(size)
	mustBe(t, "Format", pager.Format(d), api.OK)
	p, e := pager.Open(d)
	mustBe(t, "pager.Open", e, api.OK)
	return &hand{d: d, p: p}
}

// tree makes one with these keys, whose values have so many bytes.
func (h *hand) tree(t *testing.T, length int, keys ...string) int {
	t.Helper()
	root := 0
	for i, key := range keys {
		var e api.Errno
		root, e = tree.Put(h.p, root, []byte(key), text(i, length))
		mustBe(t, "tree.Put", e, api.OK)
	}
	return root
}

// name gives a name these bytes.
func (h *hand) name(t *testing.T, name string, value ...byte) {
	t.Helper()
	var e api.Errno
	h.names, e = tree.Put(h.p, h.names, []byte(name), value)
	mustBe(t, "tree.Put", e, api.OK)
}

// four are a root's bytes.
func four(root int) []byte {
	return []byte{byte(root >> 24), byte(root >> 16), byte(root >> 8), byte(root)}
}

// commit commits it.
func (h *hand) commit(t *testing.T) {
	t.Helper()
	h.p.SetRoot(h.names)
	mustBe(t, "pager.Commit", h.p.Commit(), api.OK)
}

// open commits it, and opens the database.
func (h *hand) open(t *testing.T) *db.DB {
	t.Helper()
	h.commit(t)
	b, e := db.Open(h.d)
	mustBe(t, "Open", e, api.OK)
	return b
}
