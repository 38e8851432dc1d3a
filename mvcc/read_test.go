package mvcc_test

import (
	"fmt"
	"testing"

	"terrier/api"
)

// TestRange: P15.3, P15.4, at each revision there was, in each range, with each floor.
func TestRange(t *testing.T) {
	for floor := range int64(14) {
		w := rich(t)
		if floor > 0 {
			w.compact(t, floor)
		}
		some := scopes()
		for _, key := range w.now.keys() {
			some = append(some, scope{key, ""}, scope{key, all}, scope{key, key + "\x00"}, scope{"", key}, scope{key + "\x00", all})
		}
		w.mustTellOf(t, fmt.Sprintf("the floor %d", floor), some, w.now.asked())
	}
}

// TestRangeInAWrite: P15.3, in an open write at 0 with its changes, else without.
func TestRangeInAWrite(t *testing.T) {
	for _, floor := range []int64{0, 1, 12, 13} {
		w := rich(t)
		if floor > 0 {
			w.compact(t, floor)
		}
		w.begin(t)
		w.mustTell(t, "nothing changed yet")
		for i, do := range []func(){
			func() { w.put(t, "a", "changed", 3) },
			func() { w.put(t, "ab", text(1, 500), 0) },
			func() { w.del(t, "b", "") },
			func() { w.del(t, "", all) },
			func() { w.put(t, "b", "anew", 0) },
			func() { w.put(t, "c", "anew", 0) },
			func() { w.del(t, "b", "") },
		} {
			do()
			w.mustTell(t, fmt.Sprintf("behind %d changes", i+1))
		}
		w.end(t)
		w.mustTell(t, "behind the write")
	}
}

// TestSinceInAWrite: P15.3, of an open write Since tells nothing.
func TestSinceInAWrite(t *testing.T) {
	w := example(t)
	w.begin(t)
	w.put(t, "a", "3", 0)
	for main, want := range map[int64]int{1: 3, 3: 1, 4: 0, 5: 0, greatest: 0} {
		got, e := w.s.Since(nil, []byte(all), main)
		if e != api.OK || len(got) != want {
			t.Fatalf("Since(%d) in an open write: %v, %d; want %d events", main, got, e, want)
		}
	}
}

// TestBounds: P15.3, which revisions may be asked for, by the chapter's words alone.
func TestBounds(t *testing.T) {
	w := rich(t)
	w.compact(t, 5)
	for at, want := range map[int64]api.Errno{
		least: api.ErrCompacted, -1: api.ErrCompacted, 0: api.OK, 1: api.ErrCompacted, 4: api.ErrCompacted,
		5: api.OK, 6: api.OK, 13: api.OK, 14: api.ErrFuture, maxRev: api.ErrFuture, greatest: api.ErrFuture,
	} {
		got, e := w.s.Range(nil, []byte(all), at)
		if mustBe(t, fmt.Sprintf("Range at %d", at), e, want); e != api.OK && got != nil {
			t.Fatalf("beside an error Range tells %v", got)
		}
	}
	for main, want := range map[int64]api.Errno{
		least: api.ErrCompacted, -1: api.ErrCompacted, 0: api.ErrCompacted, 1: api.ErrCompacted, 4: api.ErrCompacted,
		5: api.ErrCompacted, 6: api.OK, 13: api.OK, 14: api.OK, maxRev: api.OK, greatest: api.OK,
	} {
		got, e := w.s.Since(nil, []byte(all), main)
		if mustBe(t, fmt.Sprintf("Since %d", main), e, want); e != api.OK && got != nil {
			t.Fatalf("beside an error Since tells %v", got)
		}
	}
	_, e := twinOf(t, 60).s.Since(nil, []byte(all), 0)
	mustBe(t, "Since 0 of an empty store", e, api.ErrCompacted)
	got, e := twinOf(t, 60).s.Since(nil, []byte(all), 1)
	if e != api.OK || got != nil {
		t.Fatalf("Since 1 of an empty store: %v, %d", got, e)
	}
}

// TestPrev: P15.3, Had and Prev are what was there a revision ahead, at the floor, too, and whatever came ahead in the same write.
func TestPrev(t *testing.T) {
	w := twinOf(t, 100)
	w.puts(t, "a", "1")
	w.puts(t, "b", "1")
	w.begin(t)
	w.put(t, "a", "2", 0)
	w.put(t, "a", "3", 0)
	w.del(t, "a", "")
	w.put(t, "c", "1", 0)
	w.del(t, "a", all)
	w.end(t)
	for _, floor := range []int64{0, 1, 2} {
		if floor > 0 {
			w.compact(t, floor)
			w.sweep(t, 10)
		}
		got, e := w.s.Since(nil, []byte(all), 3)
		one, b := kv("a", "1", 1, 1, 1), kv("b", "1", 2, 2, 1)
		want := []api.Event{
			{Kind: 1, KV: kv("a", "2", 1, 3, 2), Had: true, Prev: one},
			{Kind: 1, KV: kv("a", "3", 1, 3, 3), Had: true, Prev: one},
			{Kind: 2, KV: api.KV{Key: []byte("a"), Mod: 3}, Had: true, Prev: one},
			{Kind: 1, KV: kv("c", "1", 3, 3, 1)},
			{Kind: 2, KV: api.KV{Key: []byte("b"), Mod: 3}, Had: true, Prev: b},
			{Kind: 2, KV: api.KV{Key: []byte("c"), Mod: 3}},
		}
		if e != api.OK || !sameEvents(got, want) {
			t.Fatalf("the floor %d: Since: %v, %d; want %v", floor, got, e, want)
		}
	}
}

// TestPrevAtTheFloor: P15.3, the events of a write behind a floor that is the revision ahead of it.
func TestPrevAtTheFloor(t *testing.T) {
	w := rich(t)
	for i := range 6 {
		w.compact(t, w.now.rev)
		w.begin(t)
		w.put(t, "a", text(i, i), 0)
		w.del(t, "b", all)
		w.put(t, "d", "x", 0)
		w.end(t) // asks for Had and Prev
		w.mustTell(t, "a floor just ahead")
		w.sweep(t, 3)
	}
}

// TestHash: P15.4, of all that is there, of the revision and of the floor; not of an open write.
func TestHash(t *testing.T) {
	w := twinOf(t, 200)
	w.mustTell(t, "empty")
	met := map[uint32]string{}
	ask := func(what string) {
		t.Helper()
		want, _ := w.now.hash()
		got, e := w.s.Hash()
		if e != api.OK || got != want {
			t.Fatalf("%s: Hash: %08x, %d; want %08x", what, got, e, want)
		}
		if other, found := met[got]; found {
			t.Fatalf("%s and %s have one hash", what, other)
		}
		met[got] = what
	}
	ask("nothing")
	w.puts(t, "a", "1")
	ask("a 1")
	w.puts(t, "b", "1")
	ask("b 1")
	w.puts(t, "a", "1")
	ask("a 1 again")
	w.compact(t, 1)
	ask("the floor 1")
	w.compact(t, 3)
	ask("the floor 3")
	was, _ := w.s.Hash()
	w.sweep(t, 1)
	if got, e := w.s.Hash(); got != was || e != api.OK {
		t.Fatalf("a sweep has changed the hash: %08x, %d", got, e)
	}
	w.begin(t)
	if got, e := w.s.Hash(); got != 0 || e != api.ErrArg {
		t.Fatalf("Hash in a write: %08x, %d", got, e)
	}
	w.put(t, "c", text(1, 1024), 5)
	w.end(t)
	ask("c")
	w.dels(t, "", all)
	ask("nothing again")
}
