package pager_test

import (
	"maps"
	"math/rand"
	"slices"
	"testing"

	"terrier/api"
	"terrier/disk"
	"terrier/page"
	"terrier/pager"
)

// walk is a run of acts: a pager and a plain one, what was saved of both in this transaction, and the last commit.
type walk struct {
	*twin
	saves  []pager.Saved
	plains []plainNow
	last   state
}

// anyPage is one that is mostly right.
func anyPage(r *rand.Rand) page.Page {
	if r.Intn(12) == 0 {
		return wrongs()[r.Intn(len(wrongs()))]
	}
	x := rights()[r.Intn(len(rights()))]
	x.Txn = r.Uint64()
	if x.Kind == page.Piece {
		x.Data = make([]byte, 1+r.Intn(237))
		r.Read(x.Data)
	}
	return x
}

// anyID is a number, mostly of a page that may be dropped.
func (w *walk) anyID(r *rand.Rand) int {
	if mine := w.q.those(used, fresh); len(mine) > 0 && r.Intn(4) > 0 {
		return mine[r.Intn(len(mine))]
	}
	return r.Intn(w.q.size+4) - 2
}

// step does one act to both, and asks that they answer alike.
func (w *walk) step(t *testing.T, r *rand.Rand) {
	t.Helper()
	switch n := r.Intn(40); {
	case n < 18:
		x := anyPage(r)
		want, f := w.q.add(x)
		if id, e := w.p.Add(x); id != want || e != f {
			t.Fatalf("Add(%+v): %d, %d; want %d, %d", x, id, e, want, f)
		}
	case n < 28:
		w.drop(t, w.anyID(r))
	case n < 30:
		if id := w.anyID(r); id >= 2 && id < w.q.size || r.Intn(9) == 0 {
			w.setRoot(id)
		}
	case n < 33:
		w.saves, w.plains = append(w.saves, w.p.Save()), append(w.plains, w.q.apart())
	case n < 36:
		if len(w.saves) > 0 {
			i := r.Intn(len(w.saves))
			w.p.Back(w.saves[i])
			w.q.plainNow = w.plains[i].apart()
		}
	case n < 39:
		if _, _, e := w.q.plan(); e == api.OK {
			w.saves, w.plains = nil, nil
		}
		w.commit(t)
		w.last = w.committed()
	default:
		w.crash(t, r)
	}
}

// committed is the last commit, of a pager that may be in a transaction.
func (w *walk) committed() state {
	q, _ := openPlain(w.q.store)
	return stateOf(q)
}

// crash lets the power go in a commit, or ahead of it, and opens what is left: at the last commit that was told OK, or at the one under way.
func (w *walk) crash(t *testing.T, r *rand.Rand) {
	t.Helper()
	next := w.last
	if ops, _, e := w.q.plan(); e == api.OK && r.Intn(4) > 0 {
		next = stateOf(behind(w.q))
		if w.burn(t, r, len(ops)) == api.OK {
			w.last = next
		}
	}
	var keep []disk.Keep
	cut := map[int]int{}
	for _, id := range slices.Sorted(maps.Keys(w.q.store.in)) {
		cut[id] = []int{0, 256, 256, r.Intn(257)}[r.Intn(4)]
		keep = append(keep, disk.Keep{Page: id, Bytes: cut[id]})
	}
	w.d.Crash(keep...)
	w.q.store.crash(cut)
	mustHave(t, "behind a crash", w.d, w.q.store)
	w.twin = twinOf(t, w.d)
	w.saves, w.plains = nil, nil
	if w.p.Txn() == next.txn {
		w.last = next
	}
	mustStandAt(t, w.d, w.p, w.last)
}

// burn commits both with a fuse, of so many writes and syncs, often near the end.
func (w *walk) burn(t *testing.T, r *rand.Rand, ops int) api.Errno {
	t.Helper()
	fuse := r.Intn(ops + 2)
	if r.Intn(2) == 0 {
		fuse = ops - r.Intn(3) // about the meta's write, which is the last but one
	}
	w.d.Fuse(fuse)
	e := w.p.Commit()
	mustBe(t, "Commit", e, w.q.commit(fuse))
	mustTell(t, w.p, w.q.txn, w.q.root, w.q.those(spare)...)
	if e != api.OK {
		mustNotRead(t, w.p, api.ErrDead, 2, w.anyID(r))
		mustNotAdd(t, w.p, leaf("x"), api.ErrDead)
	}
	return e
}

// mustNeed asks that no page of the last commit is spare, and that each of them is still on the disk.
func (w *walk) mustNeed(t *testing.T) {
	t.Helper()
	for _, id := range w.p.Spare() {
		if _, found := w.last.pages[id]; found {
			t.Fatalf("the page %d is spare, and of the commit %d", id, w.last.txn)
		}
	}
	for id, want := range w.last.pages {
		if b, e := w.d.Read(id); e != api.OK || !slices.Equal(b, want) {
			t.Fatalf("the page %d of the commit %d is gone", id, w.last.txn)
		}
	}
}

// TestWalk: P7.1 to P7.4, long runs of anything, with crashes and openings between, beside the chapter's words.
func TestWalk(t *testing.T) {
	for seed := range 80 {
		r := rand.New(rand.NewSource(int64(seed)))
		size := []int{8, 9, 12, 20, 62, 63, 64, 123, 130, 250}[seed%10]
		d := formatted(t, size)
		if seed%3 == 0 && size > 60 {
			d = anyDisk(t, r, size)
		}
		w := &walk{twin: twinOf(t, d)}
		w.last = stateOf(w.q)
		for range 400 {
			w.step(t, r)
			mustTell(t, w.p, w.q.txn, w.q.root, w.q.those(spare)...)
			mustReadLike(t, w.p, w.q, w.anyID(r))
			if r.Intn(10) == 0 {
				mustBeLike(t, w.p, w.q)
				w.mustNeed(t)
			}
		}
	}
}

// TestWalkFull: P7.2 to P7.4, the same on disks that are nearly full all the time, up to the greatest.
func TestWalkFull(t *testing.T) {
	for seed := range 20 {
		r := rand.New(rand.NewSource(int64(seed)))
		size := []int{8, 60, 61, 122, 1024}[seed%5]
		w := &walk{twin: twinOf(t, formatted(t, size))}
		w.add(t, size)
		w.commit(t)
		w.last = w.committed()
		for range 150 {
			if len(w.q.those(spare)) > 2*(size/60+2) {
				w.add(t, size)
			}
			w.step(t, r)
			mustTell(t, w.p, w.q.txn, w.q.root, w.q.those(spare)...)
			w.mustNeed(t)
		}
		mustBeLike(t, w.p, w.q)
	}
}
