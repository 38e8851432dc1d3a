package db_test

import (
	"fmt"
	"testing"

	"terrier/api"
)

// mostNeeded is more pages than any Put or Delete of these tests adds, but for the value's Pieces.
const mostNeeded = 20

// mustNeed asks that there was too little room, if it is known how much there was: a commit is just behind.
func (w *twin) mustNeed(t *testing.T, what string, just bool, length int) {
	t.Helper()
	size := w.d.Size()
	other := size - 2 - w.b.Pages()
	spare := other - (other+59)/60
	if just && spare >= size/60+2+mostNeeded+(length+236)/237 {
		t.Fatalf("%s: no room, though %d of %d pages are spare", what, spare, size)
	}
}

// mustBeAsItWas asks that an act that had no room has changed nothing.
func (w *twin) mustBeAsItWas(t *testing.T, what string, pages int) {
	t.Helper()
	w.mustTell(t, what+" without room")
	if got := w.b.Pages(); got != pages {
		t.Fatalf("%s without room: Pages: %d; want %d", what, got, pages)
	}
}

// tryPut puts into both, if there is room; else nothing has changed.
func (w *twin) tryPut(t *testing.T, name, key string, value []byte, just bool) bool {
	t.Helper()
	pages := w.b.Pages()
	what := fmt.Sprintf("Put(%q, %q, %d bytes)", name, key, len(value))
	if e := w.b.Put(name, []byte(key), value); e != api.OK {
		mustBe(t, what, e, api.ErrNoSpace)
		w.mustBeAsItWas(t, what, pages)
		w.mustNeed(t, what, just, len(value))
		return false
	}
	w.now = w.now.put(name, key, value)
	return true
}

// tryDelete deletes from both, if there is room; else nothing has changed.
func (w *twin) tryDelete(t *testing.T, name, key string, just bool) bool {
	t.Helper()
	pages := w.b.Pages()
	what := fmt.Sprintf("Delete(%q, %q)", name, key)
	_, want := w.now.of(name).get(key)
	found, e := w.b.Delete(name, []byte(key))
	if e != api.OK {
		mustBe(t, what, e, api.ErrNoSpace)
		w.mustBeAsItWas(t, what, pages)
		w.mustNeed(t, what, just, 0)
		if found || !want {
			t.Fatalf("%s without room: %v, %v", what, found, want)
		}
		return false
	}
	if found != want {
		t.Fatalf("%s: %v; want %v", what, found, want)
	}
	w.now = w.now.delete(name, key)
	return true
}

// fill puts till there is no room, in so many buckets, with a commit behind each some.
func (w *twin) fill(t *testing.T, buckets, length, some int) (keys int) {
	t.Helper()
	for n := 0; w.tryPut(t, wide(n%buckets), long(n), text(n, length), n%some == 0); n++ {
		keys++
		if n%some == some-1 {
			w.commit(t)
		}
	}
	return keys
}

// TestFull: P9.1, disks that are full in the midst of a Put or a Delete: nothing has changed, and what is committed then has no page too many or too few.
func TestFull(t *testing.T) {
	puts, deletes := 0, 0
	for _, size := range []int{8, 9, 10, 11, 12, 13, 14, 15, 16, 20, 25, 33, 62, 130} {
		for _, length := range []int{0, 40, 300} {
			for _, buckets := range []int{1, 3, 50} {
				w := twinOf(t, size)
				n := w.fill(t, buckets, length, 1+size/8)
				w.commit(t)
				for i := range min(n, 60) {
					if !w.tryPut(t, wide(i%buckets), long(i), text(i, 240*(i%3)), false) {
						puts++
					}
					if i%2 == 0 {
						w.commit(t)
					}
					if !w.tryDelete(t, wide(i%buckets), long(i), i%2 == 0) {
						deletes++
					}
					if i%3 == 0 {
						w.commit(t)
					}
				}
			}
		}
	}
	if puts < 50 || deletes < 50 {
		t.Fatalf("%d puts and %d deletes had no room", puts, deletes)
	}
}

// TestFullAtOnce: P9.1, the same in one transaction, whose pages are used again at once: so a full disk's keys go without more room.
func TestFullAtOnce(t *testing.T) {
	for _, size := range []int{8, 9, 20, 61, 130} {
		for _, length := range []int{10, 300} {
			w := twinOf(t, size)
			n := w.fill(t, 3, length, 1<<20)
			if n == 0 {
				if size > 9 {
					t.Fatalf("no key on %d pages", size)
				}
				continue
			}
			for i := range n {
				if !w.tryPut(t, wide(i%3), long(i), text(i+1, length), false) {
					t.Fatalf("%d pages: no room for a value that has its room", size)
				}
			}
			for i := range n {
				if !w.tryDelete(t, wide(i%3), long(i), false) {
					t.Fatalf("%d pages: no room to delete", size)
				}
			}
			w.commit(t)
			w.reopen(t)
		}
	}
}
