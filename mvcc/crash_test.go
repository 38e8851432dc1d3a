package mvcc_test

import (
	"fmt"
	"iter"
	"math/rand"
	"testing"

	"terrier/api"
	"terrier/db"
	"terrier/disk"
)

// crashes goes through disks that a crash may leave of one: of the pages in the cache all are kept, none, some; and each is torn behind so many bytes, with others kept or lost.
func crashes(d *disk.Disk, r *rand.Rand) iter.Seq[*disk.Disk] {
	return func(yield func(*disk.Disk) bool) {
		in := d.Cached()
		for n := range 3 + 2*len(in) {
			var keep []disk.Keep
			for i, id := range in {
				bytes := []int{0, 256, 256 * r.Intn(2)}[min(n, 2)]
				if n >= 3 && (n-3)/2 == i {
					bytes = 1 + r.Intn(255)
				}
				keep = append(keep, disk.Keep{Page: id, Bytes: bytes})
			}
			c := d.Copy()
			c.Crash(keep...)
			if !yield(c) {
				return
			}
		}
	}
}

// stories are what was done behind a commit, ahead of one in which the power goes.
func stories() map[string]func(*testing.T, *twin) {
	return map[string]func(*testing.T, *twin){
		"nothing": func(t *testing.T, w *twin) {},
		"a put":   func(t *testing.T, w *twin) { w.puts(t, "a", "more") },
		"a write of much": func(t *testing.T, w *twin) {
			w.begin(t)
			w.put(t, "a", text(1, 1000), 1)
			w.del(t, "", all)
			w.put(t, "n", "", 0)
			w.end(t)
		},
		"a deletion":           func(t *testing.T, w *twin) { w.dels(t, "a", "c") },
		"a floor":              func(t *testing.T, w *twin) { w.compact(t, 13) },
		"some of a sweep":      func(t *testing.T, w *twin) { w.compact(t, 13); w.sweep(t, 3) },
		"a whole sweep":        func(t *testing.T, w *twin) { w.compact(t, 13); w.sweep(t, 100) },
		"another floor":        func(t *testing.T, w *twin) { w.compact(t, 9); w.sweep(t, 2); w.commit(t); w.compact(t, 13) },
		"a sweep gone on with": func(t *testing.T, w *twin) { w.compact(t, 9); w.sweep(t, 2); w.commit(t); w.sweep(t, 3) },
		"writes behind a sweep": func(t *testing.T, w *twin) {
			w.compact(t, 9)
			w.sweep(t, 100)
			w.commit(t)
			w.puts(t, "c", "on")
			w.puts(t, "c", "and on")
		},
	}
}

// TestCrash: P15.6, each number of writes and syncs in a commit behind which the power goes: the store that is opened then tells what it did at the commit that was told OK, or at the one that was under way.
func TestCrash(t *testing.T) {
	r := rand.New(rand.NewSource(15))
	for what, story := range stories() {
		elder, younger := 0, 0
		for fuse := 0; ; fuse++ {
			w := rich(t)
			w.commit(t)
			story(t, w)
			done, txn := w.d.Done(), w.s.Base().Txn()
			w.d.Fuse(fuse)
			e := w.s.Base().Commit()
			if e != api.OK {
				mustBe(t, what+": Commit", e, api.ErrDead)
			}
			for c := range crashes(w.d, r) {
				if w.mustGoOn(t, fmt.Sprintf("%s, the fuse %d", what, fuse), c, txn, e == api.OK) {
					younger++
				} else {
					elder++
				}
			}
			if w.d.Done()-done < fuse {
				break
			}
		}
		if elder == 0 || younger == 0 {
			t.Fatalf("%s: %d crashes led to the last commit, %d to the next one", what, elder, younger)
		}
	}
}

// mustGoOn asks that a disk behind a crash is at the last commit, of this number, or at the one that was under way (if that was told OK, there), and that one may go on from there.
func (w *twin) mustGoOn(t *testing.T, what string, d *disk.Disk, txn uint64, told bool) bool {
	t.Helper()
	b, e := db.Open(d)
	mustBe(t, what+": db.Open", e, api.OK)
	c := &twin{d: d, s: open(t, b), now: w.base, base: w.base}
	next := b.Txn() != txn
	if next {
		c.now, c.base = w.now, w.now
	} else if told {
		t.Fatalf("%s: the commit that was told OK is gone", what)
	}
	c.mustTellOf(t, what, scopes()[:1], c.now.asked())
	c.puts(t, "a", "on")
	c.dels(t, "b", "c")
	c.commit(t)
	c.reopen(t)
	c.mustTellOf(t, what+", gone on", scopes()[:1], c.now.asked())
	return next
}

// TestCrashBetween: P15.6, what wasn't committed is gone, an open write, too.
func TestCrashBetween(t *testing.T) {
	for what, story := range stories() {
		w := rich(t)
		w.commit(t)
		story(t, w)
		w.reopen(t)
		w.mustTell(t, what+", not committed")
		story(t, w)
		w.begin(t)
		w.put(t, "a", "in a write", 0)
		w.del(t, "b", all)
		w.reopen(t)
		w.mustTell(t, what+", in a write")
		story(t, w)
		w.commit(t)
		w.reopen(t)
		w.mustTell(t, what+", committed")
	}
}
