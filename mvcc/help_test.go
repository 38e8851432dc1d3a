package mvcc_test

import (
	"bytes"
	"fmt"
	"slices"
	"testing"

	"terrier/api"
	"terrier/db"
	"terrier/disk"
	"terrier/mvcc"
)

// mustBe asks for this error.
func mustBe(t *testing.T, what string, got, want api.Errno) {
	t.Helper()
	if got != want {
		t.Fatalf("%s: %d; want %d", what, got, want)
	}
}

// twin is a store and a plain one, of which each is told the same.
type twin struct {
	d    *disk.Disk
	s    *mvcc.Store
	now  plain
	base plain // that of the last commit
}

// baseOf is an empty database on a disk of so many pages.
func baseOf(t *testing.T, size int) (*disk.Disk, *db.DB) {
	t.Helper()
	d := disk.New(size)
	b, e := db.Create(d)
	mustBe(t, "Create", e, api.OK)
	return d, b
}

// open is the store of a database.
func open(t *testing.T, b *db.DB) *mvcc.Store {
	t.Helper()
	s, e := mvcc.Open(b)
	mustBe(t, "Open", e, api.OK)
	if s == nil || s.Base() != b {
		t.Fatalf("Open: %v, whose Base isn't the database", s)
	}
	return s
}

// twinOf is one on a disk of so many pages.
func twinOf(t *testing.T, size int) *twin {
	t.Helper()
	d, b := baseOf(t, size)
	return &twin{d: d, s: open(t, b)}
}

// begin opens a write in both.
func (w *twin) begin(t *testing.T) {
	t.Helper()
	mustBe(t, fmt.Sprintf("Begin at %d", w.now.rev), w.s.Begin(), w.now.begin())
}

// put puts into both.
func (w *twin) put(t *testing.T, key, value string, lease int64) {
	t.Helper()
	prev, had, want := w.now.put(key, value, lease)
	got, ok, e := w.s.Put([]byte(key), []byte(value), lease)
	if e != want || ok != had || !sameKV(got, prev) {
		t.Fatalf("Put(%q, %d bytes, %d): %v, %v, %d; want %v, %v, %d", key, len(value), lease, got, ok, e, prev, had, want)
	}
}

// del deletes from both.
func (w *twin) del(t *testing.T, key, end string) {
	t.Helper()
	prevs, want := w.now.del(key, end)
	if got, e := w.s.Delete([]byte(key), []byte(end)); e != want || !sameKVs(got, prevs) {
		t.Fatalf("Delete(%q, %q): %v, %d; want %v, %d", key, end, got, e, prevs, want)
	}
}

// end closes a write in both.
func (w *twin) end(t *testing.T) {
	t.Helper()
	events, want := w.now.end()
	if got, e := w.s.End(); e != want || !sameEvents(got, events) {
		t.Fatalf("End: %v, %d; want %v, %d", got, e, events, want)
	}
}

// puts is a write that puts a key.
func (w *twin) puts(t *testing.T, key, value string) {
	t.Helper()
	w.begin(t)
	w.put(t, key, value, 0)
	w.end(t)
}

// dels is a write that deletes a range.
func (w *twin) dels(t *testing.T, key, end string) {
	t.Helper()
	w.begin(t)
	w.del(t, key, end)
	w.end(t)
}

// compact compacts both.
func (w *twin) compact(t *testing.T, at int64) {
	t.Helper()
	mustBe(t, fmt.Sprintf("Compact(%d) from %d of %d", at, w.now.floor, w.now.rev), w.s.Compact(at), w.now.compact(at))
}

// sweep sweeps both, and asks for what stands in the database then.
func (w *twin) sweep(t *testing.T, n int) bool {
	t.Helper()
	took, none, want := w.now.sweep(n)
	if got, ok, e := w.s.Sweep(n); e != want || got != took || ok != none {
		t.Fatalf("Sweep(%d): %d, %v, %d; want %d, %v, %d", n, got, ok, e, took, none, want)
	}
	w.mustStand(t, fmt.Sprintf("behind Sweep(%d)", n))
	if none {
		mustStandUnder(t, w.s.Base(), "done", w.now.floor)
	}
	return none
}

// commit commits.
func (w *twin) commit(t *testing.T) {
	t.Helper()
	mustBe(t, "Commit", w.s.Base().Commit(), api.OK)
	w.base = w.now
}

// reopen opens the disk behind a crash: all since the last commit is gone.
func (w *twin) reopen(t *testing.T) {
	t.Helper()
	w.d.Crash()
	b, e := db.Open(w.d)
	mustBe(t, "db.Open", e, api.OK)
	w.s, w.now = open(t, b), w.base
}

// mustStandUnder asks for what stands under a name in the bucket of numbers.
func mustStandUnder(t *testing.T, b *db.DB, name string, want int64) {
	t.Helper()
	got, found, e := b.Get("meta", []byte(name))
	if e != api.OK || found && !bytes.Equal(got, eight(want)) || !found && want != 0 {
		t.Fatalf("under %q stands % x, %v, %d; want %d", name, got, found, e, want)
	}
}

// mustStand asks for what stands in the database.
func (w *twin) mustStand(t *testing.T, what string) {
	t.Helper()
	b := w.s.Base()
	mustStandUnder(t, b, "rev", w.now.rev)
	mustStandUnder(t, b, "floor", w.now.floor)
	got, e := b.Walk("key", nil, nil, 0)
	mustBe(t, what+": Walk", e, api.OK)
	want := w.now.rows()
	for i := range max(len(got), len(want)) {
		if i >= len(got) || i >= len(want) || !bytes.Equal(got[i].Key, want[i].at) || !bytes.Equal(got[i].Value, want[i].value) {
			t.Fatalf("%s: there stand %d changes: %q; want %d: %q", what, len(got), got, len(want), want)
		}
	}
	mustBe(t, what+": Check", b.Check(), api.OK)
}

// scope is a range that is asked for.
type scope struct{ key, end string }

// scopes are some that leave all, some and no keys.
func scopes() []scope {
	return []scope{{"", all}, {"a", ""}, {"b", ""}, {"", ""}, {"a", "b"}, {"a", "c"}, {"b", all}, {"c", "a"}, {"aa", "zz"}, {"b", "b"}, {"zzz", all}}
}

// asked are the revisions at which something is asked for: all near the ends and the floor, and, of a store of few revisions, all that there were.
func (p plain) asked() []int64 {
	out := []int64{least, -1, 0, 1, 2, p.floor - 1, p.floor, p.floor + 1, p.rev - 1, p.rev, p.rev + 1, p.rev + 2, maxRev, maxRev + 1, greatest}
	for at := int64(3); at < min(p.rev, 30); at++ {
		out = append(out, at)
	}
	slices.Sort(out)
	return slices.Compact(out)
}

// mustRange asks what Range tells.
func (w *twin) mustRange(t *testing.T, what string, x scope, at int64) {
	t.Helper()
	want, err := w.now.scope(x.key, x.end, at)
	if got, e := w.s.Range([]byte(x.key), []byte(x.end), at); e != err || !sameKVs(got, want) {
		t.Fatalf("%s: Range(%q, %q, %d): %v, %d; want %v, %d", what, x.key, x.end, at, got, e, want, err)
	}
}

// mustSince asks what Since tells.
func (w *twin) mustSince(t *testing.T, what string, x scope, main int64) {
	t.Helper()
	want, err := w.now.since(x.key, x.end, main)
	if got, e := w.s.Since([]byte(x.key), []byte(x.end), main); e != err || !sameEvents(got, want) {
		t.Fatalf("%s: Since(%q, %q, %d): %v, %d; want %v, %d", what, x.key, x.end, main, got, e, want, err)
	}
}

// mustTell asks that the store tells what the plain one does.
func (w *twin) mustTell(t *testing.T, what string) {
	t.Helper()
	w.mustTellOf(t, what, scopes(), w.now.asked())
}

// mustTellOf asks it of some ranges and revisions.
func (w *twin) mustTellOf(t *testing.T, what string, some []scope, asked []int64) {
	t.Helper()
	if rev, floor := w.s.Rev(), w.s.Floor(); rev != w.now.rev || floor != w.now.floor {
		t.Fatalf("%s: Rev %d, Floor %d; want %d, %d", what, rev, floor, w.now.rev, w.now.floor)
	}
	for _, x := range some {
		for _, at := range asked {
			w.mustRange(t, what, x, at)
			w.mustSince(t, what, x, at)
		}
	}
	want, err := w.now.hash()
	if got, e := w.s.Hash(); got != want || e != err {
		t.Fatalf("%s: Hash: %08x, %d; want %08x, %d", what, got, e, want, err)
	}
	w.mustStand(t, what)
}

// text is so many bytes, which differ by n.
func text(n, length int) string {
	out := make([]byte, length)
	for i := range out {
		out[i] = byte(n + i*7 + i/256)
	}
	return string(out)
}

// example is the chapter's example: a put, put again, deleted.
func example(t *testing.T) *twin {
	t.Helper()
	w := twinOf(t, 100)
	w.puts(t, "a", "1")
	w.puts(t, "a", "2")
	w.dels(t, "a", "")
	return w
}

// rich is a store with keys of many fates: put once, again and again, deleted, put anew, all in one write, compacted to nothing yet.
func rich(t *testing.T) *twin {
	t.Helper()
	w := twinOf(t, 200)
	w.puts(t, "a", "1")                   // 1
	w.puts(t, "b", text(1, 300))          // 2
	w.begin(t)                            // 3
	w.put(t, "a", "2", 7)                 //
	w.put(t, "c", "", 0)                  //
	w.put(t, "a", "3", maxRev)            //
	w.end(t)                              //
	w.dels(t, "a", "c")                   // 4: a and b
	w.begin(t)                            // 5
	w.put(t, "b", text(2, 1024), 0)       //
	w.del(t, "b", "")                     //
	w.put(t, "b", "again", 1)             //
	w.put(t, "bb", text(3, 64), 2)        //
	w.end(t)                              //
	w.puts(t, "\xff\x00", text(4, 65))    // 6
	w.puts(t, "c", "c")                   // 7
	w.dels(t, "zz", all)                  // 8
	w.begin(t)                            // 9
	w.put(t, "new", "", 0)                //
	w.del(t, "new", "")                   //
	w.end(t)                              //
	w.puts(t, "a", "back")                // 10
	w.puts(t, "b", "b")                   // 11
	w.begin(t)                            //
	w.end(t)                              // none
	w.puts(t, text(5, 64), text(6, 1024)) // 12
	w.dels(t, "c", "")                    // 13
	return w
}
