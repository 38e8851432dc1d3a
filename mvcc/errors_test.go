package mvcc_test

import (
	"fmt"
	"testing"

	"terrier/api"
	"terrier/disk"
	"terrier/mvcc"
	"terrier/page"
)

// ask is a call, what it answers, and whether it is one of an open write.
type ask struct {
	within bool
	do     func(s *mvcc.Store) (answer string, nothing bool, e api.Errno)
}

// asks are all calls that answer an error of the database.
func asks() map[string]ask {
	return map[string]ask{
		"Put": {true, func(s *mvcc.Store) (string, bool, api.Errno) {
			kv, had, e := s.Put([]byte("bb"), []byte("put"), 9)
			return fmt.Sprint(kv, had), !had && sameKV(kv, api.KV{}), e
		}},
		"Delete": {true, func(s *mvcc.Store) (string, bool, api.Errno) {
			kvs, e := s.Delete([]byte("a"), []byte("bc"))
			return fmt.Sprint(kvs), kvs == nil, e
		}},
		"End": {true, func(s *mvcc.Store) (string, bool, api.Errno) {
			events, e := s.End()
			return fmt.Sprint(events), events == nil, e
		}},
		"Range": {false, func(s *mvcc.Store) (string, bool, api.Errno) {
			kvs, e := s.Range([]byte("a"), []byte(all), 7)
			return fmt.Sprint(kvs), kvs == nil, e
		}},
		"Since": {false, func(s *mvcc.Store) (string, bool, api.Errno) {
			events, e := s.Since([]byte("a"), []byte(all), 5)
			return fmt.Sprint(events), events == nil, e
		}},
		"Compact": {false, func(s *mvcc.Store) (string, bool, api.Errno) {
			return "", true, s.Compact(13)
		}},
		"Sweep": {false, func(s *mvcc.Store) (string, bool, api.Errno) {
			n, none, e := s.Sweep(100)
			return fmt.Sprint(n, none), n == 0 && !none, e
		}},
		"Hash": {false, func(s *mvcc.Store) (string, bool, api.Errno) {
			sum, e := s.Hash()
			return fmt.Sprint(sum), sum == 0, e
		}},
		"Move": {false, func(s *mvcc.Store) (string, bool, api.Errno) {
			return "", true, s.Move(disk.New(200))
		}},
	}
}

// asked is a rich store that is committed, and, if it is asked for, in a write with changes, none of which is.
func asked(t *testing.T, within bool) *twin {
	t.Helper()
	w := rich(t)
	for i := range 12 { // so that what is put next stands in another page
		w.puts(t, "pad", text(i, 200))
	}
	w.compact(t, 4)
	w.commit(t)
	if within {
		w.begin(t)
		w.put(t, "a", "in the write", 0)
		w.del(t, "b", "")
	}
	return w
}

// mustFailOr asks a call that has this error, or doesn't come upon what is wrong; beside an error nothing has changed.
func (w *twin) mustFailOr(t *testing.T, what string, x ask, want api.Errno, right string, mend func()) bool {
	t.Helper()
	answer, nothing, e := x.do(w.s)
	mend()
	if e == api.OK {
		if answer != right {
			t.Fatalf("%s: %s; want %s", what, answer, right)
		}
		return false
	}
	if mustBe(t, what, e, want); !nothing {
		t.Fatalf("%s: beside an error it answers %s", what, answer)
	}
	w.mustTell(t, what)
	return true
}

// TestBrokenPages: P15.1 to P15.5, R3, each page that can't be read: each call tells its error, or doesn't need it.
func TestBrokenPages(t *testing.T) {
	for call, x := range asks() {
		right, _, e := x.do(asked(t, x.within).s)
		mustBe(t, call, e, api.OK)
		w, told := asked(t, x.within), 0
		for id := 2; id < w.d.Size(); id++ {
			good, _ := w.d.Read(id)
			if p, e := page.Decode(good); e != api.OK || p.Kind == page.Spare {
				continue
			}
			was, s := w.now, w.s.Save()
			mustBe(t, "Write", w.d.Write(id, make([]byte, 256)), api.OK)
			mend := func() { mustBe(t, "Write", w.d.Write(id, good), api.OK) }
			if w.mustFailOr(t, fmt.Sprintf("%s, the page %d broken", call, id), x, api.ErrSum, right, mend) {
				told++
			}
			w.s.Back(s)
			w.now = was
		}
		if told == 0 {
			t.Fatalf("%s needs no page", call)
		}
		w.mustTell(t, call+", mended")
	}
}

// TestDeadDisk: R3, a disk that is dead: ErrDead, and nothing has changed, which is told when it answers again.
func TestDeadDisk(t *testing.T) {
	for call, x := range asks() {
		w := asked(t, x.within)
		w.d.Fuse(0)
		if !w.mustFailOr(t, call+" of a dead disk", x, api.ErrDead, "", func() { w.d.Crash() }) {
			t.Fatalf("%s of a dead disk: OK", call)
		}
		if _, _, e := x.do(w.s); e != api.OK {
			t.Fatalf("%s of a disk that answers again: %d", call, e)
		}
	}
}

// TestDeadBase: a database whose commit failed: ErrDead; what needs no page is told.
func TestDeadBase(t *testing.T) {
	for call, x := range asks() {
		w := asked(t, x.within)
		rev, floor := w.now.rev, w.now.floor
		s := w.s.Save()
		w.d.Fuse(1)
		mustBe(t, "Commit", w.s.Base().Commit(), api.ErrDead)
		w.d.Crash()
		for range 2 {
			if answer, nothing, e := x.do(w.s); e != api.ErrDead || !nothing {
				t.Fatalf("%s: %s, %d; want ErrDead", call, answer, e)
			}
			if w.s.Rev() != rev || w.s.Floor() != floor || w.s.Base() == nil {
				t.Fatalf("%s: Rev %d, Floor %d", call, w.s.Rev(), w.s.Floor())
			}
			w.s.Save()
			w.s.Back(s)
		}
		_, e := w.s.Range(nil, []byte(all), rev+1)
		mustBe(t, "Range above the revision", e, api.ErrFuture)
		_, e = w.s.Since(nil, []byte(all), 4)
		mustBe(t, "Since at the floor", e, api.ErrCompacted)
		w.reopen(t)
		w.mustTell(t, "opened again")
	}
}

// TestDeadWriting: a write of a dead database can be opened, and closed if it has no change.
func TestDeadWriting(t *testing.T) {
	w := asked(t, false)
	w.d.Fuse(0)
	w.begin(t)
	w.begin(t)
	if _, _, e := w.s.Put([]byte("zz"), nil, 0); e != api.ErrDead {
		t.Fatalf("Put: %d", e)
	}
	w.put(t, "", "", 0)
	w.del(t, "zz", "")
	w.end(t)
	w.d.Crash()
	w.mustTell(t, "behind a write that couldn't be")
}

// TestSpoiledByHand: changes that were taken out of the database, or written over, under a store that is open: an error, and nothing beside it.
func TestSpoiledByHand(t *testing.T) {
	for what, spoil := range map[string]func(t *testing.T, w *twin, at []byte){
		"gone": func(t *testing.T, w *twin, at []byte) {
			_, e := w.s.Base().Delete("key", at)
			mustBe(t, "Delete", e, api.OK)
		},
		"nothing":     func(t *testing.T, w *twin, at []byte) { mustBe(t, "Put", w.s.Base().Put("key", at, nil), api.OK) },
		"a tombstone": func(t *testing.T, w *twin, at []byte) { mustBe(t, "Put", w.s.Base().Put("key", at, tomb("b")), api.OK) },
		"another record": func(t *testing.T, w *twin, at []byte) {
			mustBe(t, "Put", w.s.Base().Put("key", at, put(kv("b", "", 1, 1, 1))), api.OK)
		},
	} {
		for call, x := range asks() {
			told := 0
			for _, r := range asked(t, x.within).now.rows() {
				w := asked(t, x.within)
				spoil(t, w, r.at)
				answer, nothing, e := x.do(w.s)
				if e == api.OK {
					continue
				}
				if told++; e != api.ErrForm || !nothing {
					t.Fatalf("%s, %s: %s, %d", what, call, answer, e)
				}
				if w.s.Rev() != w.now.rev || w.s.Floor() != w.now.floor {
					t.Fatalf("%s, %s: Rev %d, Floor %d", what, call, w.s.Rev(), w.s.Floor())
				}
			}
			if never := call == "Compact" || call == "Sweep" || call == "Move"; never != (told == 0) {
				t.Fatalf("%s: %s had an error %d times", what, call, told)
			}
		}
	}
}

// TestSweepByHand: what stands in the bucket of changes and is no change: ErrForm.
func TestSweepByHand(t *testing.T) {
	w := asked(t, false)
	mustBe(t, "Put", w.s.Base().Put("key", eight(1), nil), api.OK)
	if n, none, e := w.s.Sweep(100); n != 0 || none || e != api.ErrForm {
		t.Fatalf("Sweep: %d, %v, %d", n, none, e)
	}
	_, e := w.s.Base().Delete("key", eight(1))
	mustBe(t, "Delete", e, api.OK)
	w.mustTell(t, "mended")
}
