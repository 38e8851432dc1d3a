package db_test

import (
	"iter"
	"math/rand"
	"testing"

	"terrier/api"
	"terrier/db"
	"terrier/disk"
)

// crashes goes through the disks that a crash may leave of one: of the pages in the cache any are kept, the others lost (of more than 7 pages some such choices); and each page is torn behind so many bytes, with all others kept, with all lost, with some.
func crashes(d *disk.Disk, r *rand.Rand) iter.Seq[*disk.Disk] {
	in := d.Cached()
	return func(yield func(*disk.Disk) bool) {
		crashed := func(keep []disk.Keep) bool {
			c := d.Copy()
			c.Crash(keep...)
			return yield(c)
		}
		for n := range 1 << min(len(in), 7) {
			some := n
			if len(in) > 7 {
				some = []int{0, 1<<len(in) - 1, r.Intn(1 << len(in))}[min(n, 2)]
			}
			if !crashed(kept(in, some)) {
				return
			}
		}
		for _, id := range in {
			for _, n := range []int{1, 4, 5, 13, 19, 100, 248, 255} {
				for _, some := range []int{0, 1<<len(in) - 1, r.Intn(1 << len(in))} {
					if !crashed(append(kept(in, some), disk.Keep{Page: id, Bytes: n})) {
						return
					}
				}
			}
		}
	}
}

// kept is a Keep for each of these pages whose bit is set.
func kept(in []int, some int) []disk.Keep {
	var out []disk.Keep
	for i, id := range in {
		if some>>i&1 == 1 {
			out = append(out, disk.Keep{Page: id, Bytes: 256})
		}
	}
	return out
}

// stories are what was done ahead of a commit in which the power goes.
func stories() map[string]func(*testing.T, *twin) {
	some := func(t *testing.T, w *twin) {
		w.put(t, "a", "k", text(1, 300))
		w.put(t, "a", "l", text(2, 30))
		w.put(t, "b", "k", text(3, 3))
		w.commit(t)
	}
	return map[string]func(*testing.T, *twin){
		"nothing":             func(t *testing.T, w *twin) {},
		"the first put":       func(t *testing.T, w *twin) { w.put(t, "a", "k", []byte("v")) },
		"the first buckets":   func(t *testing.T, w *twin) { w.put(t, "a", "k", text(1, 300)); w.put(t, "b", "", nil) },
		"nothing behind some": some,
		"a put behind some":   func(t *testing.T, w *twin) { some(t, w); w.put(t, "a", "k", text(4, 200)) },
		"a deletion":          func(t *testing.T, w *twin) { some(t, w); w.delete(t, "a", "k") },
		"a bucket's end":      func(t *testing.T, w *twin) { some(t, w); w.delete(t, "b", "k") },
		"another bucket":      func(t *testing.T, w *twin) { some(t, w); w.put(t, "c", long(1), text(1, 64)) },
		"the end of all": func(t *testing.T, w *twin) {
			some(t, w)
			w.delete(t, "b", "k")
			w.delete(t, "a", "k")
			w.delete(t, "a", "l")
		},
		"puts in both":          func(t *testing.T, w *twin) { some(t, w); w.put(t, "a", "k", nil); w.put(t, "b", "k", text(5, 500)) },
		"commits, then a put":   func(t *testing.T, w *twin) { some(t, w); w.commit(t); w.commit(t); w.put(t, "b", "m", nil) },
		"changes, then a put":   func(t *testing.T, w *twin) { some(t, w); w.put(t, "a", "k", nil); w.commit(t); w.put(t, "b", "m", nil) },
		"a put that went Back":  func(t *testing.T, w *twin) { some(t, w); s := w.b.Save(); w.b.Put("a", nil, text(1, 400)); w.b.Back(s) },
		"an opening, and a put": func(t *testing.T, w *twin) { some(t, w); w.reopen(t); w.put(t, "b", "k", text(6, 70)) },
		"many": func(t *testing.T, w *twin) {
			some(t, w)
			for i := range 14 {
				w.put(t, wide(i%5), long(i), text(i, 20))
			}
		},
	}
}

// TestCrash: P9.4, each number of writes and syncs in a commit behind which the power goes, and each way of a crash: the last commit that was told OK, or the one that was under way, whole.
func TestCrash(t *testing.T) {
	r := rand.New(rand.NewSource(9))
	for _, size := range []int{40, 70} {
		for what, story := range stories() {
			elder, younger := 0, 0
			for fuse := 0; ; fuse++ {
				w := twinOf(t, size)
				story(t, w)
				done := w.d.Done()
				w.d.Fuse(fuse)
				e := w.b.Commit()
				if e != api.OK {
					mustBe(t, what+": Commit", e, api.ErrDead)
				}
				for c := range crashes(w.d, r) {
					if w.mustGoOn(t, what, c, e == api.OK) {
						younger++
					} else {
						elder++
					}
				}
				if w.d.Done()-done < fuse {
					break
				}
			}
			if elder == 0 || younger == 0 {
				t.Fatalf("%s: %d crashes led to the last commit, %d to the next one", what, elder, younger)
			}
		}
	}
}

// mustGoOn asks that a disk behind a crash is at the last commit or at the one that was under way (if that was told OK, there), which it tells, and that one may go on from there.
func (w *twin) mustGoOn(t *testing.T, what string, d *disk.Disk, ok bool) bool {
	t.Helper()
	b, e := db.Open(d)
	mustBe(t, what+": Open", e, api.OK)
	c := &twin{d: d, b: b, now: w.base, base: w.base, txn: w.txn}
	next := b.Txn() != w.txn
	if next {
		c.now, c.base, c.txn = w.now, w.now, w.txn+1
	} else if ok {
		t.Fatalf("%s: the commit that was told OK is gone", what)
	}
	c.mustTell(t, what+", behind a crash")
	c.mustStand(t, b.Pages())
	c.mustKnow(t)
	c.put(t, "on", "k", text(1, 70))
	c.commit(t)
	c.reopen(t)
	return next
}

// TestCrashBetween: P9.4, what wasn't committed is gone, what was committed stays, whatever of the cache is kept.
func TestCrashBetween(t *testing.T) {
	for what, story := range stories() {
		w := twinOf(t, 60)
		story(t, w)
		if in := w.d.Cached(); len(in) > 0 {
			t.Fatalf("%s: the pages %v are in the cache ahead of a commit", what, in)
		}
		w.reopen(t)
		w.mustStand(t, w.b.Pages())
		w.put(t, "on", "k", nil)
		w.commit(t)
		w.reopen(t)
	}
}
