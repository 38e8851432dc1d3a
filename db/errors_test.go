package db_test

import (
	"fmt"
	"math"
	"slices"
	"testing"

	"terrier/api"
	"terrier/db"
	"terrier/disk"
	"terrier/meta"
	"terrier/page"
	"terrier/pager"
)

// asks are the calls that a database answers with an error of its pages, each with what it answers beside it: is it nothing?
func asks(b *db.DB, name, key string) map[string]func() (api.Errno, bool) {
	return map[string]func() (api.Errno, bool){
		"Get": func() (api.Errno, bool) {
			v, found, e := b.Get(name, []byte(key))
			return e, len(v) == 0 && !found
		},
		"Put": func() (api.Errno, bool) { return b.Put(name, []byte(key), text(1, 500)), true },
		"Delete": func() (api.Errno, bool) {
			found, e := b.Delete(name, []byte(key))
			return e, !found
		},
		"Walk": func() (api.Errno, bool) {
			l, e := b.Walk(name, []byte(key), nil, 0)
			return e, len(l) == 0
		},
		"Buckets": func() (api.Errno, bool) {
			l, e := b.Buckets()
			return e, len(l) == 0
		},
		"Check": func() (api.Errno, bool) { return b.Check(), true },
		"Copy": func() (api.Errno, bool) {
			c, e := b.Copy(disk.New(100))
			return e, c == nil
		},
	}
}

// mustFail asks that these calls have this error, and nothing beside it.
func mustFail(t *testing.T, what string, b *db.DB, name, key string, want api.Errno, calls ...string) {
	t.Helper()
	for _, call := range calls {
		if e, nothing := asks(b, name, key)[call](); e != want || !nothing {
			t.Fatalf("%s: %s(%q, %q): %d, nothing: %v; want %d", what, call, name, key, e, nothing, want)
		}
	}
}

// all are the calls of asks.
func all() []string { return []string{"Get", "Put", "Delete", "Walk", "Buckets", "Check", "Copy"} }

// of are those of them that ask for one bucket.
func of() []string { return all()[:4] }

// whole are those that ask for all buckets.
func whole() []string { return []string{"Check", "Copy"} }

// broken are a page's bytes that can't be read, by the error that it has.
func broken(t *testing.T) map[api.Errno][]byte {
	t.Helper()
	m, e := meta.Encode(meta.Meta{Size: 60})
	mustBe(t, "meta.Encode", e, api.OK)
	return map[api.Errno][]byte{api.ErrSum: make([]byte, 256), api.ErrForm: m}
}

// spoil makes the page of a disk be that, while something is done.
func spoil(t *testing.T, d *disk.Disk, id int, bad []byte, do func()) {
	t.Helper()
	good, e := d.Read(id)
	mustBe(t, "Read", e, api.OK)
	mustBe(t, "Write", d.Write(id, bad), api.OK)
	do()
	mustBe(t, "Write", d.Write(id, good), api.OK)
}

// rich is a database of three buckets of more than one page each, committed.
func rich(t *testing.T) *twin {
	t.Helper()
	w := twinOf(t, 150)
	for i := range 27 {
		w.put(t, wide(i%3), long(i), text(i, []int{20, 60, 300}[i/3%3]))
	}
	for i := range 20 {
		w.put(t, wide(i+3), "k", []byte("v"))
	}
	w.commit(t)
	return w
}

// TestBrokenPages: P9.1, R3, each page of each tree that can't be read: each call tells its error, or doesn't need it; beside the error nothing has changed.
func TestBrokenPages(t *testing.T) {
	w := rich(t)
	p, e := pager.Open(w.d)
	mustBe(t, "pager.Open", e, api.OK)
	told := map[string]int{}
	for id := range w.d.Size() {
		x, e := p.Read(id)
		if e != api.OK || x.Kind == page.Spare || slices.Contains(p.Spare(), id) {
			continue
		}
		for want, bad := range broken(t) {
			for n := range 3 {
				for call, do := range asks(w.b, wide(n), long(n+12)) {
					was, s := tells(t, w.b), w.b.Save()
					spoil(t, w.d, id, bad, func() {
						e, nothing := do()
						if e != api.OK && e != want || e != api.OK && !nothing {
							t.Fatalf("%s, the page %d broken: %d, nothing: %v; want %d", call, id, e, nothing, want)
						}
						if e != api.OK {
							told[call]++
							return
						}
						if call == "Check" || call == "Copy" {
							t.Fatalf("%s, the page %d broken: OK", call, id)
						}
						w.b.Back(s)
					})
					was.mustStay(t, call+" of broken pages", w.b)
				}
			}
			mustBePages(t, w, id, bad)
		}
	}
	for _, call := range all() {
		if told[call] < 6 {
			t.Fatalf("%s told %d errors", call, told[call])
		}
	}
	w.mustTell(t, "behind all")
	w.commit(t)
}

// mustBePages asks that there are none, as one can't be read.
func mustBePages(t *testing.T, w *twin, id int, bad []byte) {
	t.Helper()
	spoil(t, w.d, id, bad, func() {
		if got := w.b.Pages(); got != 0 {
			t.Fatalf("Pages, the page %d broken: %d", id, got)
		}
	})
}

// TestMidst: P9.1, R3, the tree of names can't be read when the bucket's was changed already: nothing has changed.
func TestMidst(t *testing.T) {
	w := twinOf(t, 100)
	for i := range 13 {
		w.put(t, wide(i), "k", text(i, 5))
	}
	w.commit(t)
	p, e := pager.Open(w.d)
	mustBe(t, "pager.Open", e, api.OK)
	root, e := p.Read(p.Root())
	if e != api.OK || root.Kind != page.Branch || len(root.Kids) != 2 {
		t.Fatalf("the tree of names: %+v, %d", root, e)
	}
	failed := 0
	for i := range 13 { // to find a name one Leaf is enough; where one that has little is deleted its neighbour is read
		was, s := tells(t, w.b), w.b.Save()
		for _, kid := range root.Kids {
			spoil(t, w.d, kid.Page, make([]byte, 256), func() {
				_, _, get := w.b.Get(wide(i), []byte("k"))
				found, e := w.b.Delete(wide(i), []byte("k"))
				if e == api.OK {
					w.b.Back(s)
				} else if e != api.ErrSum || found {
					t.Fatalf("Delete: %v, %d", found, e)
				}
				if get == api.OK && e != api.OK {
					failed++
				}
			})
			was.mustStay(t, "behind it", w.b)
		}
		w.commit(t)
	}
	if failed == 0 {
		t.Fatal("no Delete needed another Leaf")
	}
	w.mustTell(t, "behind all")
}

// mustBuckets are the names.
func mustBuckets(t *testing.T, b *db.DB) []string {
	t.Helper()
	l, e := b.Buckets()
	mustBe(t, "Buckets", e, api.OK)
	return l
}

// TestNoRoot: P9.1, P9.2, what a name has is no root's four bytes.
func TestNoRoot(t *testing.T) {
	for _, value := range [][]byte{{}, {0}, {3}, {0, 3}, {0, 0, 3}, {0, 0, 0, 3, 0}, {0, 0, 0, 0, 0, 0, 0, 3}, {0, 0, 0, 0}, make([]byte, 64), make([]byte, 300)} {
		h := handOf(t, 60)
		good := h.tree(t, 300, "k", "l") // 3 is a page of it
		h.name(t, "a", four(good)...)
		h.name(t, "n", value...)
		b := h.open(t)
		was := tells(t, b, "a")
		what := fmt.Sprintf("the root % x", value)
		mustFail(t, what, b, "n", "k", api.ErrForm, all()...)
		mustFail(t, what, b, "a", "k", api.ErrForm, "Buckets", "Check", "Copy")
		if got := b.Pages(); got != 0 {
			t.Fatalf("%s: Pages: %d", what, got)
		}
		was.mustStay(t, what, b, "a")
		mustWalk(t, b, "a", nil, nil, 0, list{pair("k", text(0, 300)), pair("l", text(1, 300))})
		mustBe(t, "Put into another bucket", b.Put("a", []byte("m"), nil), api.OK)
		mustWalk(t, b, "a", []byte("m"), nil, 0, list{pair("m", nil)})
	}
}

// TestRootBeyond: P9.1, P9.2, roots that are pages out of bounds, can't be read, or are of another kind.
func TestRootBeyond(t *testing.T) {
	for root, want := range map[int]api.Errno{1: api.ErrRange, 60: api.ErrRange, 1 << 31: api.ErrRange, math.MaxUint32: api.ErrRange, 59: api.ErrSum, 2: api.ErrForm, 3: api.ErrForm} {
		h := handOf(t, 60)
		if id, e := h.p.Add(page.Page{Kind: page.Piece, Data: []byte("x")}); id != 3 || e != api.OK {
			t.Fatalf("Add: %d, %d", id, e)
		}
		h.name(t, "a", four(h.tree(t, 300, "k"))...)
		h.name(t, "n", four(root)...)
		b := h.open(t)
		what := fmt.Sprint("the root ", root)
		mustFail(t, what, b, "n", "k", want, of()...)
		mustFail(t, what, b, "n", "k", want, whole()...)
		if got := b.Pages(); got != 0 {
			t.Fatalf("%s: Pages: %d", what, got)
		}
		if l := mustBuckets(t, b); !slices.Equal(l, []string{"a", "n"}) {
			t.Fatalf("%s: Buckets: %q", what, l)
		}
		mustWalk(t, b, "a", nil, nil, 0, list{pair("k", text(0, 300))})
	}
}

// TestWrongNames: P9.1, P9.2, a tree of names that is none, or that has names which no bucket may have.
func TestWrongNames(t *testing.T) {
	for _, name := range []string{"", wide(1) + "x", long(1)} {
		h := handOf(t, 60)
		h.name(t, "a", four(h.tree(t, 5, "k"))...)
		h.name(t, name, four(h.tree(t, 5, "k"))...)
		b := h.open(t)
		mustFail(t, "a wrong name", b, "a", "k", api.ErrForm, "Buckets", "Check", "Copy")
		mustFail(t, "a wrong name", b, name, "k", api.ErrArg, of()...)
		mustGet(t, b, "a", "k", list{pair("k", text(0, 5))})
	}
	h := handOf(t, 60)
	var e api.Errno
	h.names, e = h.p.Add(page.Page{Kind: page.Piece, Data: []byte("x")})
	mustBe(t, "Add", e, api.OK)
	mustFail(t, "a Piece", h.open(t), "a", "k", api.ErrForm, all()...)
	h.names = 59
	mustFail(t, "a page that was never written", h.open(t), "a", "k", api.ErrSum, all()...)
}

// TestOrder: P9.1, R2, of several errors: no name, then too long, then what the pages have.
func TestOrder(t *testing.T) {
	h := handOf(t, 60)
	h.name(t, "n", 1)
	broken := h.open(t)
	dead := rich(t)
	dead.put(t, "b", "k", nil)
	dead.d.Fuse(0)
	mustBe(t, "Commit", dead.b.Commit(), api.ErrDead)
	for _, b := range []*db.DB{broken, dead.b} {
		for _, name := range noNames() {
			mustBe(t, "no name", b.Put(name, make([]byte, 33), make([]byte, 4097)), api.ErrArg)
			mustFail(t, "no name", b, name, "k", api.ErrArg, of()...)
		}
		mustBe(t, "too long a key", b.Put("n", make([]byte, 33), nil), api.ErrLong)
		mustBe(t, "too long a value", b.Put("n", nil, make([]byte, 4097)), api.ErrLong)
	}
	mustBe(t, "neither", broken.Put("n", make([]byte, 32), make([]byte, 4096)), api.ErrForm)
	mustBe(t, "neither", dead.b.Put("n", make([]byte, 32), make([]byte, 4096)), api.ErrDead)
}

// TestDead: P9.1, P9.2, behind a Commit that had ErrDead each call has it; Txn is as it was.
func TestDead(t *testing.T) {
	for fuse := range 4 {
		w := rich(t)
		s := w.b.Save()
		w.put(t, wide(0), "k", nil)
		w.d.Fuse(fuse)
		mustBe(t, "Commit", w.b.Commit(), api.ErrDead)
		for range 2 {
			for _, name := range []string{wide(0), "none"} {
				mustFail(t, "dead", w.b, name, long(0), api.ErrDead, all()...)
			}
			mustBe(t, "Commit", w.b.Commit(), api.ErrDead)
			if w.b.Pages() != 0 || w.b.Txn() != w.txn {
				t.Fatalf("dead: Pages, Txn: %d, %d", w.b.Pages(), w.b.Txn())
			}
			w.b.Back(s)
			w.b.Back(w.b.Save())
			w.d.Crash() // the disk isn't dead then, but the database is
		}
		b, e := db.Open(w.d)
		mustBe(t, "Open", e, api.OK)
		mustHave(t, "opened anew", b, w.base)
	}
}

// TestDeadDisk: P9.1, what needs a page of a disk that is dead has its error; behind a crash it goes on.
func TestDeadDisk(t *testing.T) {
	w := rich(t)
	w.d.Fuse(0)
	mustFail(t, "a dead disk", w.b, wide(0), long(0), api.ErrDead, all()...)
	w.d.Crash()
	w.mustTell(t, "behind a crash")
	w.put(t, wide(0), "k", nil)
	w.commit(t)
}
