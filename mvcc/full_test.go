package mvcc_test

import (
	"fmt"
	"testing"

	"terrier/api"
	"terrier/mvcc"
)

// whole does a write, or, where there is no room, nothing: back to what was saved ahead of it.
func (w *twin) whole(t *testing.T, write func() api.Errno) bool {
	t.Helper()
	was, s := w.now, w.s.Save()
	err := write()
	if err == api.OK {
		return true
	}
	mustBe(t, "a write", err, api.ErrNoSpace)
	w.s.Back(s)
	w.now = was
	w.mustTellOf(t, "back behind a full disk", []scope{{"", all}}, []int64{0, was.floor, was.floor + 1, was.rev})
	return false
}

// tryPut puts into both, if there is room.
func (w *twin) tryPut(t *testing.T, key, value string) api.Errno {
	t.Helper()
	got, had, e := w.s.Put([]byte(key), []byte(value), 0)
	if e == api.OK {
		prev, there, _ := w.now.put(key, value, 0)
		if had != there || !sameKV(got, prev) {
			t.Fatalf("Put(%q): %v, %v; want %v, %v", key, got, had, prev, there)
		}
	} else if had || !sameKV(got, api.KV{}) {
		t.Fatalf("beside %d Put tells %v, %v", e, got, had)
	}
	return e
}

// tryDel deletes from both, if there is room.
func (w *twin) tryDel(t *testing.T, key, end string) api.Errno {
	t.Helper()
	got, e := w.s.Delete([]byte(key), []byte(end))
	if e == api.OK {
		if prevs, _ := w.now.del(key, end); !sameKVs(got, prevs) {
			t.Fatalf("Delete(%q, %q): %v; want %v", key, end, got, prevs)
		}
	} else if got != nil {
		t.Fatalf("beside %d Delete tells %v", e, got)
	}
	return e
}

// tryEnd closes a write of both, if there is room.
func (w *twin) tryEnd(t *testing.T) api.Errno {
	t.Helper()
	got, e := w.s.End()
	if e == api.OK {
		if want, _ := w.now.end(); !sameEvents(got, want) {
			t.Fatalf("End: %v; want %v", got, want)
		}
	} else if got != nil {
		t.Fatalf("beside %d End tells %v", e, got)
	}
	return e
}

// tryCompact compacts both, if there is room; else nothing has changed.
func (w *twin) tryCompact(t *testing.T, at int64) bool {
	t.Helper()
	e := w.s.Compact(at)
	if e != api.ErrNoSpace {
		mustBe(t, "Compact", e, w.now.compact(at))
		return e == api.OK
	}
	w.mustTellOf(t, "no room for a floor", []scope{{"", all}}, w.now.asked())
	return false
}

// trySweep sweeps both; where there is no room, some may have been taken, the first of those that were to be.
func (w *twin) trySweep(t *testing.T, n int) (took int, room bool) {
	t.Helper()
	ahead := len(w.now.rows())
	got, none, e := w.s.Sweep(n)
	rows, _ := w.s.Base().Walk("key", nil, nil, 0)
	took = ahead - len(rows)
	spent := w.now.spent()
	if took < 0 || took > min(n, len(spent)) {
		t.Fatalf("Sweep(%d) took %d of %d", n, took, len(spent))
	}
	w.now.gone(spent[:took])
	if e != api.OK {
		if mustBe(t, "Sweep", e, api.ErrNoSpace); got != 0 || none {
			t.Fatalf("beside ErrNoSpace Sweep tells %d, %v", got, none)
		}
	} else if got != took || got != min(n, len(spent)) || none != (took == len(spent)) {
		t.Fatalf("Sweep(%d): %d, %v; want %d of %d", n, got, none, took, len(spent))
	}
	w.mustTellOf(t, "behind a sweep", []scope{{"", all}}, []int64{0, w.now.floor, w.now.floor + 1, w.now.rev})
	return took, e == api.OK
}

// TestFull: P15.2, P15.6, writes till a disk is full: ErrNoSpace, and behind Back all is as it was; then room is made by compaction, sweeps and commits.
func TestFull(t *testing.T) {
	for _, size := range []int{8, 9, 10, 11, 12, 13, 15, 20, 30, 61} {
		for _, length := range []int{0, 60, 700} {
			w := twinOf(t, size)
			none := 0
			for i := 0; none < 3; i++ {
				key := fmt.Sprintf("k%d", i%5)
				if !w.whole(t, func() api.Errno {
					w.begin(t)
					err := w.tryPut(t, key, text(i, length))
					if err == api.OK && i%3 == 0 {
						err = w.tryPut(t, key+"x", text(i, length/2))
					}
					if err == api.OK && i%4 == 0 {
						err = w.tryDel(t, "k2", "k4")
					}
					if err == api.OK {
						err = w.tryEnd(t)
					}
					return err
				}) {
					none++
					w.commit(t)
				}
				if i%7 == 0 {
					w.commit(t)
				}
			}
			w.mustTell(t, "a full disk")
			w.commit(t)
			w.reopen(t)
			w.mustTell(t, "a full disk, opened again")
			w.makeRoom(t)
		}
	}
}

// makeRoom compacts and sweeps a full disk, with commits between; where that goes, there is room again.
func (w *twin) makeRoom(t *testing.T) {
	t.Helper()
	if w.now.rev < 20 || !w.tryCompact(t, w.now.rev) {
		return
	}
	w.commit(t)
	all, room := 0, true
	for range 500 {
		var took int
		took, room = w.trySweep(t, 3)
		all += took
		w.commit(t)
		if room && took < 3 {
			break
		}
	}
	w.reopen(t)
	w.mustTell(t, "swept, opened again")
	if len(w.now.spent()) > 0 {
		if room {
			t.Fatalf("%d changes are still to be swept, of %d", len(w.now.spent()), all)
		}
		return
	}
	if !w.whole(t, func() api.Errno {
		w.begin(t)
		err := w.tryPut(t, "k1", "anew")
		if err == api.OK {
			err = w.tryEnd(t)
		}
		return err
	}) {
		t.Fatalf("no room behind sweeping %d changes of %d pages", all, w.d.Size())
	}
}

// fullAt is a store on a disk on which so many writes found room, filled beside with what is none of its own till no page may be added.
func fullAt(t *testing.T, writes int) *twin {
	t.Helper()
	w := twinOf(t, 40)
	for i := range writes {
		w.puts(t, fmt.Sprintf("k%d", i%4), text(i, 50))
	}
	return w
}

// fill puts into other buckets till there is no room, and then gives so many pages back.
func (w *twin) fill(t *testing.T, pages int) {
	t.Helper()
	b := w.s.Base()
	if pages > 0 {
		mustBe(t, "Put", b.Put("ballast", []byte("k"), []byte(text(1, 237*pages))), api.OK)
	}
	w.commit(t)
	for _, length := range []int{4000, 2000, 1000, 500, 237, 0} { // at last buckets of one page each: no Put needs less room
		for i := 0; ; i++ {
			e := b.Put(fmt.Sprintf("%d-%d", length, i), []byte("k"), []byte(text(1, length)))
			if e != api.OK {
				mustBe(t, "filling", e, api.ErrNoSpace)
				break
			}
			w.commit(t)
		}
	}
	if pages > 0 {
		_, e := b.Delete("ballast", []byte("k"))
		mustBe(t, "Delete", e, api.OK)
		w.commit(t)
	}
}

// TestNoRoom: P15.2 to P15.4, on a disk on which no page may be added each call that writes is ErrNoSpace, and nothing has changed; those that don't write tell what they told.
func TestNoRoom(t *testing.T) {
	w := fullAt(t, 12)
	w.compact(t, 6)
	w.sweep(t, 1)
	w.fill(t, 0)
	w.mustTell(t, "a full disk")
	mustBe(t, "Compact", w.s.Compact(9), api.ErrNoSpace)
	w.mustTell(t, "behind Compact")
	if n, none, e := w.s.Sweep(3); n != 0 || none || e != api.ErrNoSpace {
		t.Fatalf("Sweep: %d, %v, %d", n, none, e)
	}
	w.mustTell(t, "behind Sweep")
	w.begin(t)
	for range 3 {
		mustBe(t, "Put", w.tryPut(t, "k1", "x"), api.ErrNoSpace)
		mustBe(t, "Put", w.tryPut(t, "new", "x"), api.ErrNoSpace)
		mustBe(t, "Delete", w.tryDel(t, "k0", "k3"), api.ErrNoSpace)
		mustBe(t, "Put", w.tryPut(t, "", "x"), api.ErrForm)
		mustBe(t, "Delete", w.tryDel(t, "zz", ""), api.OK)
		w.mustTell(t, "in a write without room")
	}
	w.end(t)
	w.mustTell(t, "behind a write without room")
	w.reopen(t)
	w.mustTell(t, "opened again")
}

// TestSweptWithoutRoom: P15.4, where there is nothing to sweep a Sweep needs no room, behind an opening neither.
func TestSweptWithoutRoom(t *testing.T) {
	for _, floor := range []int64{0, 6, 12} {
		w := fullAt(t, 12)
		if floor > 0 {
			w.compact(t, floor)
		}
		w.sweep(t, 100)
		w.fill(t, 0)
		for range 2 {
			w.sweep(t, 1)
			w.sweep(t, 100)
			w.mustTell(t, "nothing swept on a full disk")
			w.reopen(t)
		}
	}
}

// TestEndWithoutRoom: P15.2, an End without room tells nothing, and the revision is what it was; behind Back all is as it was, and what there is room for goes.
func TestEndWithoutRoom(t *testing.T) {
	none := 0
	for writes := range 40 {
		w := fullAt(t, writes%12)
		was, s := w.now, w.s.Save()
		w.begin(t)
		for i := 0; w.tryPut(t, fmt.Sprintf("k%d", i), text(i, 5+writes)) == api.OK; i++ {
		}
		rev := w.now.rev
		if e := w.tryEnd(t); e != api.OK {
			none++
			mustBe(t, "End", e, api.ErrNoSpace)
			if w.s.Rev() != rev {
				t.Fatalf("Rev behind an End without room: %d; want %d", w.s.Rev(), rev)
			}
			w.mustTell(t, "behind an End without room")
		}
		w.s.Back(s)
		w.now = was
		w.mustTell(t, "back")
		w.puts(t, "a", "1")
		w.mustTell(t, "and on")
	}
	if none == 0 {
		t.Fatal("each End had room")
	}
}

// TestDeleteWithoutRoom: P15.2, R3, a Delete of many keys that has no room for all of them has deleted none.
func TestDeleteWithoutRoom(t *testing.T) {
	none := 0
	for keep := range 30 {
		w := twinOf(t, 100)
		for i := range 40 {
			w.puts(t, fmt.Sprintf("%060d", i), "")
		}
		w.begin(t)
		var saves []mvcc.Saved
		var was []plain
		for i := 0; ; i++ {
			saves, was = append(saves, w.s.Save()), append(was, w.now)
			if w.tryPut(t, fmt.Sprintf("k%d", i), text(i, 200)) != api.OK {
				break
			}
		}
		at := max(len(saves)-1-keep, 0)
		w.s.Back(saves[at])
		w.now = was[at]
		if w.tryDel(t, "", all) != api.OK {
			none++
			w.mustTellOf(t, "behind a Delete without room", scopes(), []int64{0, 1, 40, 41})
		}
		w.tryEnd(t)
		w.mustTellOf(t, "behind the write", scopes()[:1], []int64{0, 1, 40, 41})
	}
	if none == 0 || none == 30 {
		t.Fatalf("%d Deletes of 30 had no room", none)
	}
}

// TestSweepWithoutRoom: P15.4, sweeps that have no room for all: what was taken is gone, the rest goes on behind a commit.
func TestSweepWithoutRoom(t *testing.T) {
	none, some, all := 0, 0, 0
	for pages := range 17 {
		w := twinOf(t, 130)
		for i := range 60 {
			key := "again"
			if i%3 == 0 {
				key = fmt.Sprintf("once%02d", i) // so that something of each page is kept
			}
			w.puts(t, key, text(i, 20))
		}
		w.compact(t, 60)
		w.fill(t, pages)
		for range 40 {
			took, room := w.trySweep(t, 1000)
			if room {
				all++
				break
			}
			if none++; took > 0 {
				some++
			}
			w.commit(t)
		}
		w.mustTell(t, "behind sweeps")
		w.reopen(t)
		w.mustTell(t, "opened again")
	}
	if none == 0 || some == 0 || all == 0 {
		t.Fatalf("%d sweeps had no room, %d took some, %d all", none, some, all)
	}
}
