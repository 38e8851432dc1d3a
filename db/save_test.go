package db_test

import (
	"testing"

	"terrier/api"
	"terrier/db"
	"terrier/disk"
)

// TestBack: P9.2, behind puts and deletes in several buckets, to one Saved again and again, and to elder ones.
func TestBack(t *testing.T) {
	for _, committed := range []bool{false, true} {
		w := twinOf(t, 200)
		for i := range 9 {
			w.put(t, wide(i%3), long(i), text(i, 40*i))
		}
		if committed {
			w.commit(t)
		}
		var saves []db.Saved
		var was []plain
		var pages []int
		for i := range 12 {
			saves, was, pages = append(saves, w.b.Save()), append(was, w.now), append(pages, w.b.Pages())
			w.put(t, wide(i%5), long(i+3), text(i, 100))
			w.put(t, "other", long(i), text(i, 10))
			w.delete(t, wide((i+1)%3), long(i))
			w.mustTell(t, "ahead of Back")
		}
		for _, at := range []int{11, 11, 5, 5, 11, 0, 7, 7, 0, 0, 3} {
			w.b.Back(saves[at])
			w.now = was[at]
			w.mustTell(t, "behind Back")
			if got := w.b.Pages(); got != pages[at] {
				t.Fatalf("behind Back: Pages: %d; want %d", got, pages[at])
			}
			for i := range 3 {
				w.put(t, wide(i), long(at+i), text(at, 200))
				w.delete(t, wide(i), long(i))
			}
			w.put(t, "yet another", "k", nil)
			w.mustTell(t, "behind changes behind Back")
		}
		w.b.Back(saves[4])
		w.now = was[4]
		w.commit(t)
		w.reopen(t)
	}
}

// TestBackToNothing: P9.2, to an empty database, and from one.
func TestBackToNothing(t *testing.T) {
	w := twinOf(t, 60)
	s := w.b.Save()
	for range 3 {
		w.put(t, "a", "k", text(1, 300))
		w.put(t, "b", "k", text(2, 3))
		full, was := w.b.Save(), w.now
		w.b.Back(s)
		w.now = nil
		w.mustTell(t, "back to nothing")
		w.b.Back(full)
		w.now = was
		w.mustTell(t, "back to all")
		w.b.Back(s)
		w.now = nil
	}
	w.commit(t)
}

// TestBackWithin: P9.2, where nothing was changed nothing changes; a Saved that was never one, neither.
func TestBackWithin(t *testing.T) {
	w := rich(t)
	w.put(t, "b", "k", nil)
	w.b.Back(w.b.Save())
	w.mustTell(t, "behind Back at once")
	w.b.Back(db.Saved{})
	w.mustTell(t, "behind Back to no Saved")
	w.commit(t)
}

// TestBackElsewhere: R1, of a Saved of another database, or ahead of a commit, nothing is promised, but that it ends; here nothing changes.
func TestBackElsewhere(t *testing.T) {
	w, other := rich(t), rich(t)
	other.put(t, "other", "k", text(1, 300))
	foreign := other.b.Save()
	s := w.b.Save()
	w.put(t, "b", "k", text(1, 300))
	w.b.Back(foreign)
	w.mustTell(t, "behind Back to another's")
	w.commit(t)
	w.b.Back(s)
	w.mustTell(t, "behind Back to what was ahead of a commit")
	w.delete(t, "b", "k")
	w.b.Back(s)
	w.mustTell(t, "behind Back to what was ahead of a commit")
	w.commit(t)
	w.reopen(t)
	w.b.Back(s)
	w.mustTell(t, "behind Back to what was ahead of an opening")
	w.commit(t)
	other.mustTell(t, "the other one")
	other.commit(t)
}

// TestBackRoom: P9.2, what was put since has its room no more.
func TestBackRoom(t *testing.T) {
	w := twinOf(t, 40)
	w.put(t, "a", "k", text(1, 300))
	w.commit(t)
	s, was := w.b.Save(), w.now
	for i := range 5 {
		n := 0
		for ; w.tryPut(t, "b", long(n), text(n, 300), false); n++ {
		}
		if n < 5 {
			t.Fatalf("the %dth time there was room for %d keys", i, n)
		}
		w.b.Back(s)
		w.now = was
		w.mustTell(t, "behind Back")
	}
	w.commit(t)
}

// TestNil: P9.4, R1, a nil database: ErrArg, nothing, zeros, for each call.
func TestNil(t *testing.T) {
	var b *db.DB
	for _, name := range append(noNames(), "b", wide(1)) {
		for _, key := range []string{"", "k", long(1) + "x"} {
			mustFail(t, "nil", b, name, key, api.ErrArg, all()...)
			mustBe(t, "Put", b.Put(name, []byte(key), make([]byte, 4097)), api.ErrArg)
		}
	}
	mustBe(t, "Commit", b.Commit(), api.ErrArg)
	mustBe(t, "Check", b.Check(), api.ErrArg)
	if b.Txn() != 0 || b.Pages() != 0 {
		t.Fatalf("Txn, Pages: %d, %d", b.Txn(), b.Pages())
	}
	w := rich(t)
	b.Back(w.b.Save())
	b.Back(b.Save())
	b.Back(db.Saved{})
	w.put(t, "b", "k", nil)
	w.b.Back(b.Save())
	w.mustTell(t, "behind Back to nothing")
	for _, d := range []*disk.Disk{nil, w.d.Copy()} {
		if c, e := b.Copy(d); c != nil || e != api.ErrArg {
			t.Fatalf("Copy: %v, %d", c, e)
		}
	}
	d := w.d.Copy()
	if c, e := b.Copy(d); c != nil || e != api.ErrArg {
		t.Fatalf("Copy: %v, %d", c, e)
	}
	c, e := db.Open(d)
	mustBe(t, "Open", e, api.OK)
	mustHave(t, "a disk onto which nothing was copied", c, w.base)
}
