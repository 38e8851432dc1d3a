package tree_test

import (
	"slices"
	"testing"

	"terrier/api"
	"terrier/tree"
)

// mustBack goes back to what was saved, and asks that all is as it was.
func (w *twin) mustBack(t *testing.T, back func(), spare []int) {
	t.Helper()
	back()
	if got := w.p.Spare(); !slices.Equal(got, spare) {
		t.Fatalf("behind Back: spare are %v; want %v", got, spare)
	}
	w.mustTell(t, "behind Back")
	w.mustKeep(t)
}

// mustNeed asks that there was no room for a change of so many Pieces. A Leaf and the Branches above it may have to be parted.
func (w *twin) mustNeed(t *testing.T, what string, spare, pieces, high int) {
	t.Helper()
	if most := 2*high + 3 + pieces; spare >= w.leastRoom()+most {
		t.Fatalf("%s: no room, though %d pages are spare, at most %d are needed, and %d are enough to add one", what, spare, most, w.leastRoom())
	}
}

// tryPut puts, if there is room; else all is as it was.
func (w *twin) tryPut(t *testing.T, key string, value []byte) bool {
	t.Helper()
	s, spare := w.p.Save(), w.p.Spare()
	if root, e := tree.Put(w.p, w.root, []byte(key), value); e != api.OK {
		mustBe(t, "Put", e, api.ErrNoSpace)
		if root != 0 {
			t.Fatalf("Put without room: %d", root)
		}
		w.mustNeed(t, "Put", len(spare), (len(value)+236)/237, w.height(t))
		w.mustBack(t, func() { w.p.Back(s) }, spare)
		return false
	}
	w.p.Back(s)
	w.put(t, key, value)
	return true
}

// tryDelete deletes, if there is room; else all is as it was.
func (w *twin) tryDelete(t *testing.T, key string) bool {
	t.Helper()
	s, spare := w.p.Save(), w.p.Spare()
	if root, found, e := tree.Delete(w.p, w.root, []byte(key)); e != api.OK {
		mustBe(t, "Delete", e, api.ErrNoSpace)
		if root != 0 || found {
			t.Fatalf("Delete without room: %d, %v", root, found)
		}
		w.mustNeed(t, "Delete", len(spare), 0, w.height(t))
		w.mustBack(t, func() { w.p.Back(s) }, spare)
		return false
	}
	w.p.Back(s)
	w.delete(t, key)
	return true
}

// TestFull: P8.2, a disk that is full in the midst of a Put or a Delete, of each number of pages that are spare.
func TestFull(t *testing.T) {
	for _, size := range []int{8, 9, 10, 12, 20, 33, 60, 80} {
		for _, length := range []int{0, 40, 300} {
			w := twinOf(t, size)
			w.commit(t)
			n := 0
			for ; w.tryPut(t, long(n), text(n, length)); n++ {
				if n%5 == 4 {
					w.commit(t)
				}
			}
			w.commit(t)
			gone := 0
			for i := range n {
				for _, other := range []int{i % 65, 240 * (i % 6)} {
					w.tryPut(t, long(i), text(i, other))
				}
				if w.tryDelete(t, long(i)) {
					gone++
				}
				if i%3 == 2 {
					w.commit(t)
				}
			}
			if size > 12 && (n == 0 || gone == 0) {
				t.Fatalf("%d pages: %d keys, of which %d were deleted", size, n, gone)
			}
		}
	}
}

// TestRoomOfTransaction: P8.2, what a change drops of its own transaction it may use itself: on a disk that is full a value may be put again and again.
func TestRoomOfTransaction(t *testing.T) {
	w := twinOf(t, 60)
	n := 0
	for ; w.tryPut(t, short(n), text(n, 900)); n++ {
	}
	if n < 8 {
		t.Fatalf("%d keys", n)
	}
	for i := range n {
		for range 3 {
			if !w.tryPut(t, short(i), text(i+1, 900)) || !w.tryPut(t, short(i), text(i, 800)) || !w.tryPut(t, short(i), text(i, 900)) {
				t.Fatalf("no room for the key %d, which has its room", i)
			}
		}
	}
	for i := range n {
		if !w.tryDelete(t, short(i)) {
			t.Fatalf("no room to delete the key %d", i)
		}
	}
}
