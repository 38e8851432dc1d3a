package mvcc_test

import (
	"fmt"
	"testing"

	"terrier/api"
)

// TestBegin: P15.2, a write is opened once.
func TestBegin(t *testing.T) {
	w := twinOf(t, 60)
	w.begin(t)
	w.begin(t) // ErrArg
	w.mustTell(t, "behind Begin twice")
	w.put(t, "a", "1", 0)
	w.begin(t)
	w.end(t)
	w.mustTell(t, "behind the write")
	w.begin(t)
	w.end(t)
	w.begin(t)
	w.end(t)
	w.mustTell(t, "behind writes without a change")
}

// TestBeginAtTheEnd: P15.2, there is a write at MaxRev, and none behind it.
func TestBeginAtTheEnd(t *testing.T) {
	d, b := baseOf(t, 60)
	stands{rev: maxRev - 1}.lay(t, b)
	w := &twin{d: d, s: open(t, b), now: plain{rev: maxRev - 1}}
	w.mustTell(t, "one ahead of the end")
	w.begin(t)
	w.put(t, "a", "1", 0)
	w.put(t, "a", "2", 0)
	w.begin(t) // ErrArg, ahead of ErrRevision
	w.mustTell(t, "in the last write")
	w.end(t)
	w.mustTell(t, "at the end")
	w.begin(t) // ErrRevision
	w.put(t, "a", "3", 0)
	w.del(t, "a", "")
	w.end(t)
	w.mustTell(t, "no write at the end")
	w.compact(t, maxRev)
	w.sweep(t, 5)
	w.commit(t)
	w.reopen(t)
	w.mustTell(t, "at the end, opened again")
	w.begin(t)
}

// TestBeginEarlier: P15.2, a write that was without a change leaves one at MaxRev still to come.
func TestBeginEarlier(t *testing.T) {
	d, b := baseOf(t, 60)
	stands{rev: maxRev - 1}.lay(t, b)
	w := &twin{d: d, s: open(t, b), now: plain{rev: maxRev - 1}}
	w.begin(t)
	w.del(t, "", all)
	w.end(t)
	w.puts(t, "a", "1")
	w.begin(t)
	w.mustTell(t, "at the end")
}

// TestNoWrite: P15.2, Put, Delete and End with no write open.
func TestNoWrite(t *testing.T) {
	w := twinOf(t, 60)
	for range 2 {
		w.put(t, "a", "1", 0)
		w.put(t, "", text(1, 2000), -1) // ErrArg, ahead of ErrForm
		w.del(t, "a", "")
		w.del(t, "", all)
		w.end(t)
		w.mustTell(t, "no write")
		w.puts(t, "a", "1")
		w.puts(t, "b", "1")
	}
	w.begin(t)
	w.end(t)
	w.put(t, "a", "1", 0)
	w.del(t, "a", "")
	w.end(t)
	w.mustTell(t, "behind a write without a change")
}

// TestPutKeys: P15.2, keys of each length at which something changes.
func TestPutKeys(t *testing.T) {
	w := twinOf(t, 200)
	w.begin(t)
	for _, n := range []int{0, 1, 2, 31, 32, 33, 63, 64, 65, 66, 1000} {
		w.put(t, text(n, n), "v", 0)
		w.put(t, text(n+1, n), "v", 0)
	}
	w.put(t, "\x00", "v", 0)
	w.put(t, "\x00\x00", "v", 0)
	w.put(t, "\xff", "v", 0)
	w.mustTell(t, "keys, in the write")
	w.end(t)
	w.mustTell(t, "keys")
}

// TestPutValues: P15.2, values of each length at which something changes.
func TestPutValues(t *testing.T) {
	w := twinOf(t, 200)
	for _, n := range []int{0, 1, 20, 63, 64, 65, 236, 237, 238, 1023, 1024, 1025, 4096, 5000} {
		w.begin(t)
		w.put(t, "a", text(n, n), 0)
		w.put(t, text(n, 64), text(n, n), 0)
		w.end(t)
		w.mustTell(t, fmt.Sprintf("a value of %d bytes", n))
	}
}

// TestPutLeases: P15.2, leases in bounds and out of them.
func TestPutLeases(t *testing.T) {
	w := twinOf(t, 200)
	for _, n := range []int64{0, 1, -1, 2, maxRev - 1, maxRev, maxRev + 1, least, greatest, 0} {
		w.begin(t)
		w.put(t, "a", "v", n)
		w.put(t, "b", "v", 5)
		w.end(t)
		w.mustTell(t, fmt.Sprintf("the lease %d", n))
	}
}

// TestPutWrong: P15.2, R3, what can't be put changes nothing: the Sub isn't taken, nor a revision.
func TestPutWrong(t *testing.T) {
	w := twinOf(t, 100)
	w.puts(t, "a", "1")
	w.begin(t)
	w.put(t, "", "v", 0)
	w.put(t, "a", text(1, 1025), 0)
	w.put(t, "a", "v", -1)
	w.mustTell(t, "in a write of what can't be")
	w.end(t)
	w.mustTell(t, "behind it")
	w.begin(t)
	w.put(t, "b", "2", 0)
	w.put(t, text(1, 65), "v", 0)
	w.put(t, "a", "v", maxRev+1)
	w.put(t, "a", "3", 0)
	w.end(t)
	w.mustTell(t, "among others")
}

// TestPutVersions: P15.2, a version goes up to MaxRev, and no further.
func TestPutVersions(t *testing.T) {
	b := stands{rev: 2, floor: 2, rows: []row{at(0, kv("a", "", 1, 1, maxRev-1)), at(0, kv("b", "", 1, 2, maxRev))}}.base(t)
	s := open(t, b)
	mustBe(t, "Begin", s.Begin(), api.OK)
	got, had, e := s.Put([]byte("b"), nil, 0)
	if e != api.ErrForm || had || !sameKV(got, api.KV{}) {
		t.Fatalf("Put behind the greatest version: %v, %v, %d", got, had, e)
	}
	got, had, e = s.Put([]byte("a"), []byte("x"), 0)
	if e != api.OK || !had || !sameKV(got, kv("a", "", 1, 1, maxRev-1)) {
		t.Fatalf("Put of the greatest version: %v, %v, %d", got, had, e)
	}
	if _, _, e := s.Put([]byte("a"), nil, 0); e != api.ErrForm {
		t.Fatalf("another Put: %d", e)
	}
	events, e := s.End()
	want := api.Event{Kind: 1, KV: kv("a", "x", 1, 3, maxRev), Had: true, Prev: kv("a", "", 1, 1, maxRev-1)}
	if e != api.OK || !sameEvents(events, []api.Event{want}) {
		t.Fatalf("End: %v, %d", events, e)
	}
	mustBe(t, "Begin", s.Begin(), api.OK)
	if gone, e := s.Delete([]byte("a"), []byte("c")); e != api.OK || len(gone) != 2 {
		t.Fatalf("Delete: %v, %d", gone, e)
	}
	if _, _, e := s.Put([]byte("a"), nil, 0); e != api.OK {
		t.Fatalf("Put behind the deletion: %d", e)
	}
	if events, e := s.End(); e != api.OK || len(events) != 3 || !sameKV(events[2].KV, kv("a", "", 4, 4, 1)) {
		t.Fatalf("End: %v, %d", events, e)
	}
	open(t, b)
}

// TestPutAgain: P15.2, a put of a key that was there, that was deleted ahead of it, in the same write, too.
func TestPutAgain(t *testing.T) {
	w := twinOf(t, 200)
	w.puts(t, "a", "1")
	w.puts(t, "a", "1") // the same value is a change, too
	w.puts(t, "a", "")
	w.dels(t, "a", "")
	w.puts(t, "a", "2")
	w.begin(t)
	w.del(t, "a", "")
	w.put(t, "a", "3", 1)
	w.put(t, "a", "4", 2)
	w.del(t, "a", "")
	w.del(t, "a", "") // no change
	w.put(t, "a", "5", 3)
	w.mustTell(t, "in the write")
	w.end(t)
	w.mustTell(t, "behind the write")
	w.begin(t)
	w.put(t, "b", "1", 0)
	w.put(t, "b", "2", 0)
	w.del(t, "a", all)
	w.end(t)
	w.mustTell(t, "all is gone")
	w.begin(t)
	w.put(t, "c", "1", 0)
	w.del(t, "c", "")
	w.end(t)
	w.mustTell(t, "a key that never was")
	w.puts(t, "c", "2")
	w.puts(t, "b", "3")
	w.mustTell(t, "put anew")
}

// TestDelete: P15.2, ranges of no, one, many keys, one that is upside down.
func TestDelete(t *testing.T) {
	for _, x := range scopes() {
		w := twinOf(t, 200)
		w.begin(t)
		for i, key := range []string{"a", "aa", "ab", "b", "ba", "c", "z", "\xff"} {
			w.put(t, key, text(i, i*40), int64(i))
		}
		w.end(t)
		w.dels(t, x.key, x.end)
		w.mustTell(t, fmt.Sprintf("behind Delete(%q, %q)", x.key, x.end))
		w.dels(t, x.key, x.end) // of what is gone: no change
		w.mustTell(t, "behind it again")
		w.begin(t)
		w.put(t, "b", "anew", 0)
		w.del(t, x.key, x.end)
		w.put(t, "b", "anew again", 0)
		w.mustTell(t, "in a write")
		w.end(t)
		w.mustTell(t, "behind the write")
	}
}

// TestDeleteWide: P15.2, a Delete asks nothing of its key and its end: no key that is there can have these.
func TestDeleteWide(t *testing.T) {
	w := twinOf(t, 100)
	w.puts(t, "a", "1")
	w.puts(t, text(3, 64), "2")
	w.begin(t)
	w.del(t, text(3, 65), "")
	w.del(t, "", "")
	w.del(t, text(3, 2000), text(4, 3000))
	w.end(t)
	w.mustTell(t, "nothing went")
	w.begin(t)
	w.del(t, text(3, 63), text(4, 3000))
	w.end(t)
	w.mustTell(t, "one went")
}

// TestSubs: P15.2, the Subs of a write rise from 0, over puts and deletions.
func TestSubs(t *testing.T) {
	w := twinOf(t, 400)
	for range 3 {
		w.begin(t)
		for i := range 20 {
			w.put(t, fmt.Sprintf("k%02d", i), text(i, i), 0)
			if i%5 == 4 {
				w.del(t, fmt.Sprintf("k%02d", i-3), fmt.Sprintf("k%02d", i))
			}
		}
		w.mustTell(t, "in a long write")
		w.end(t)
	}
	w.mustTell(t, "behind long writes")
	w.dels(t, "", all)
	w.mustTell(t, "all gone")
}

// TestEmptyWrites: P15.2, a write without a change takes no revision.
func TestEmptyWrites(t *testing.T) {
	w := twinOf(t, 60)
	for range 3 {
		pages := w.s.Base().Pages()
		for range 3 {
			w.begin(t)
			w.del(t, "a", "b")
			w.del(t, "zz", all)
			w.put(t, "", "", 0)
			w.end(t)
		}
		if got := w.s.Base().Pages(); got != pages {
			t.Fatalf("writes without a change: %d pages; there were %d", got, pages)
		}
		w.mustTell(t, "behind writes without a change")
		w.puts(t, "b", "1")
	}
}
