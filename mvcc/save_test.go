package mvcc_test

import (
	"fmt"
	"testing"

	"terrier/api"
	"terrier/disk"
	"terrier/mvcc"
)

// acts are puts, deletions, compactions, sweeps, in writes and between them.
func acts(t *testing.T, w *twin) []func() {
	return []func(){
		func() { w.puts(t, "a", text(w.n(), 100)) },
		func() { w.dels(t, "a", "c") },
		func() { w.compact(t, w.now.floor+2) },
		func() { w.sweep(t, 2) },
		func() { w.begin(t) },
		func() { w.put(t, "a", "within", 3) },
		func() { w.del(t, "a", all) },
		func() { w.put(t, "b", text(w.n(), 300), 4) },
		func() { w.end(t) },
		func() { w.compact(t, w.now.rev) },
		func() { w.sweep(t, 100) },
		func() { w.begin(t); w.end(t) },
	}
}

// n is a number that differs with what was done.
func (w *twin) n() int { return len(w.now.lines) }

// TestBack: P15.5, around puts, deletions, compactions and sweeps, in writes, too; to each Saved, again and again, in any order.
func TestBack(t *testing.T) {
	for _, committed := range []bool{false, true} {
		w := rich(t)
		if committed {
			w.commit(t)
		}
		var saves []mvcc.Saved
		var was []plain
		for _, do := range acts(t, w) {
			saves, was = append(saves, w.s.Save()), append(was, w.now)
			do()
			w.mustTell(t, "ahead of Back")
		}
		for i, at := range []int{11, 11, 5, 5, 6, 0, 7, 9, 4, 8, 10, 3, 2, 1, 0, 0, 8} {
			w.s.Back(saves[at])
			w.now = was[at]
			w.mustTell(t, fmt.Sprintf("back to %d", at))
			for _, do := range acts(t, w)[i%3*4:] {
				do()
			}
			w.mustTell(t, "behind acts behind Back")
		}
		w.s.Back(saves[9])
		w.now = was[9]
		w.commit(t)
		w.reopen(t)
		w.mustTell(t, "opened again")
	}
}

// TestBackEach: P15.5, behind each act alone, and that one may do it again.
func TestBackEach(t *testing.T) {
	for first := range 12 {
		w := rich(t)
		for _, do := range acts(t, w)[:first] {
			do()
		}
		for range 3 {
			was, s := w.now, w.s.Save()
			acts(t, w)[first]()
			w.s.Back(s)
			w.now = was
			w.mustTell(t, fmt.Sprintf("back from the act %d", first))
		}
		for _, do := range acts(t, w)[first:] {
			do()
		}
		w.mustTell(t, "behind all acts")
	}
}

// TestBackToNothing: P15.5, to an empty store, and from one.
func TestBackToNothing(t *testing.T) {
	w := twinOf(t, 100)
	s := w.s.Save()
	for range 2 {
		w.puts(t, "a", "1")
		w.puts(t, "a", "2")
		w.compact(t, 2)
		full, was := w.s.Save(), w.now
		w.s.Back(s)
		w.now = plain{}
		w.mustTell(t, "back to nothing")
		w.s.Back(full)
		w.now = was
		w.mustTell(t, "back to all")
		w.s.Back(s)
		w.now = plain{}
	}
}

// TestBackSubs: P15.5, a write goes on where it was.
func TestBackSubs(t *testing.T) {
	w := twinOf(t, 100)
	w.begin(t)
	w.put(t, "a", "1", 0)
	s, was := w.s.Save(), w.now
	w.put(t, "b", "2", 0)
	w.end(t)
	w.puts(t, "c", "3")
	w.s.Back(s)
	w.now = was
	w.put(t, "d", "4", 0)
	w.end(t)
	w.mustTell(t, "behind the write")
	w.reopen(t)
	w.mustTell(t, "nothing was committed")
}

// TestBackElsewhere: P15.5, what is no Saved of the store, or is one ahead of a commit, does nothing: neither is promised, but all must stay what it can be.
func TestBackElsewhere(t *testing.T) {
	w, other := rich(t), example(t)
	w.s.Back(mvcc.Saved{})
	w.mustTell(t, "no Saved")
	w.s.Back(other.s.Save())
	w.mustTell(t, "another store's")
	w.s.Back((*mvcc.Store)(nil).Save())
	w.mustTell(t, "that of no store")
	s := w.s.Save()
	w.puts(t, "a", "more")
	w.commit(t)
	w.s.Back(s)
	w.mustTell(t, "ahead of a commit")
	s = w.s.Save()
	w.s = open(t, w.s.Base())
	w.s.Back(s)
	w.mustTell(t, "of the store that was")
	w.puts(t, "a", "and more")
	w.mustTell(t, "and on")
}

// TestMove: P15.5, onto empty disks, and onto one that has something: the store goes on with the copy.
func TestMove(t *testing.T) {
	for _, d := range []*disk.Disk{disk.New(60), disk.New(100), disk.New(1024), example(t).d} {
		w := rich(t)
		w.compact(t, 4)
		w.sweep(t, 1)
		w.commit(t)
		w.puts(t, "a", "not committed")
		elder, was := w.d.Copy(), w.s.Base()
		mustBe(t, "Put", was.Put("sys", []byte("used"), []byte("x")), api.OK)
		mustBe(t, "Move", w.s.Move(d), api.OK)
		if w.s.Base() == was || w.s.Base() == nil {
			t.Fatalf("Base behind Move: %v; it was %v", w.s.Base(), was)
		}
		if got, _, e := w.s.Base().Get("sys", []byte("used")); e != api.OK || string(got) != "x" {
			t.Fatalf("what stood beside the store: %q, %d", got, e)
		}
		w.mustTell(t, "behind Move")
		mustStay(t, w.d, elder)
		w.d, w.base = d, w.now
		w.reopen(t)
		w.mustTell(t, "opened behind Move")
		w.puts(t, "a", "on")
		w.sweep(t, 3)
		w.mustTell(t, "and on")
		w.commit(t)
		w.reopen(t)
		w.mustTell(t, "committed")
	}
}

// mustStay asks that a disk is what it was.
func mustStay(t *testing.T, d, was *disk.Disk) {
	t.Helper()
	for id := range was.Size() {
		a, _ := was.Read(id)
		b, e := d.Read(id)
		if e != api.OK || string(a) != string(b) {
			t.Fatalf("the page %d has changed: %d", id, e)
		}
	}
}

// TestMoveGoesOn: P15.5, what is done behind Move is done on the new disk alone.
func TestMoveGoesOn(t *testing.T) {
	w := rich(t)
	w.commit(t)
	elder, d := w.d.Copy(), disk.New(100)
	mustBe(t, "Move", w.s.Move(d), api.OK)
	w.puts(t, "a", "1")
	w.compact(t, 6)
	w.sweep(t, 100)
	mustBe(t, "Commit", w.s.Base().Commit(), api.OK)
	mustStay(t, w.d, elder)
	w.d, w.base = d, w.now
	w.reopen(t)
	w.mustTell(t, "the new disk")
}

// TestMoveFails: P15.5, onto no disk, one that is too small, dead or dying: nothing has changed.
func TestMoveFails(t *testing.T) {
	w := rich(t)
	w.commit(t)
	w.puts(t, "a", "not committed")
	was := w.s.Base()
	dead, dying := disk.New(100), disk.New(100)
	dead.Fuse(0)
	dying.Fuse(20)
	for what, x := range map[string]struct {
		d    *disk.Disk
		want api.Errno
	}{
		"no disk":       {nil, api.ErrArg},
		"no disk's":     {disk.New(7), api.ErrArg},
		"a small one":   {disk.New(8), api.ErrNoSpace},
		"a smaller one": {disk.New(20), api.ErrNoSpace},
		"a dead one":    {dead, api.ErrDead},
		"a dying one":   {dying, api.ErrDead},
	} {
		mustBe(t, "Move onto "+what, w.s.Move(x.d), x.want)
		if w.s.Base() != was {
			t.Fatalf("Base has changed behind Move onto %s", what)
		}
		w.mustTell(t, "behind Move onto "+what)
	}
	w.puts(t, "a", "on")
	w.commit(t)
	w.reopen(t)
	w.mustTell(t, "opened again")
}

// TestMoveInAWrite: P15.5, ErrArg, ahead of Copy's.
func TestMoveInAWrite(t *testing.T) {
	w := rich(t)
	w.begin(t)
	for _, d := range []*disk.Disk{disk.New(100), disk.New(8), nil} {
		mustBe(t, "Move in a write", w.s.Move(d), api.ErrArg)
	}
	w.put(t, "a", "1", 0)
	mustBe(t, "Move in a write", w.s.Move(disk.New(100)), api.ErrArg)
	w.mustTell(t, "in a write")
	w.end(t)
	w.mustTell(t, "behind it")
	mustBe(t, "Move behind it", w.s.Move(disk.New(100)), api.OK)
	w.mustTell(t, "behind Move")
}

// TestMoveBack: P15.5, back to what was ahead of a Move, of the database that was: it had no commit.
func TestMoveBack(t *testing.T) {
	w := rich(t)
	w.commit(t)
	w.puts(t, "a", "1")
	s, was, base := w.s.Save(), w.now, w.s.Base()
	mustBe(t, "Move", w.s.Move(disk.New(100)), api.OK)
	w.puts(t, "a", "2")
	w.s.Back(s)
	w.now = was
	if w.s.Base() != base {
		t.Fatal("Back behind Move has another Base")
	}
	w.mustTell(t, "back behind Move")
	w.puts(t, "a", "3")
	w.commit(t)
	w.reopen(t)
	w.mustTell(t, "opened again")
}

// TestNil: P15.5, a nil store in each call.
func TestNil(t *testing.T) {
	var s *mvcc.Store
	if s.Rev() != 0 || s.Floor() != 0 || s.Base() != nil {
		t.Fatalf("nil: Rev %d, Floor %d, Base %v", s.Rev(), s.Floor(), s.Base())
	}
	mustBe(t, "Begin", s.Begin(), api.ErrArg)
	kv, had, e := s.Put([]byte("a"), nil, 0)
	if mustBe(t, "Put", e, api.ErrArg); had || !sameKV(kv, api.KV{}) {
		t.Fatalf("Put: %v, %v", kv, had)
	}
	kvs, e := s.Delete(nil, []byte(all))
	if mustBe(t, "Delete", e, api.ErrArg); kvs != nil {
		t.Fatalf("Delete: %v", kvs)
	}
	events, e := s.End()
	if mustBe(t, "End", e, api.ErrArg); events != nil {
		t.Fatalf("End: %v", events)
	}
	for _, at := range []int64{least, -1, 0, 1, greatest} {
		kvs, e = s.Range(nil, []byte(all), at)
		if mustBe(t, "Range", e, api.ErrArg); kvs != nil {
			t.Fatalf("Range: %v", kvs)
		}
		events, e = s.Since(nil, []byte(all), at)
		if mustBe(t, "Since", e, api.ErrArg); events != nil {
			t.Fatalf("Since: %v", events)
		}
		mustBe(t, "Compact", s.Compact(at), api.ErrArg)
		n, none, e := s.Sweep(int(at))
		if mustBe(t, "Sweep", e, api.ErrArg); n != 0 || none {
			t.Fatalf("Sweep: %d, %v", n, none)
		}
	}
	hash, e := s.Hash()
	if mustBe(t, "Hash", e, api.ErrArg); hash != 0 {
		t.Fatalf("Hash: %x", hash)
	}
	s.Back(s.Save())
	s.Back(example(t).s.Save())
	mustBe(t, "Move", s.Move(disk.New(60)), api.ErrArg)
	mustBe(t, "Move", s.Move(nil), api.ErrArg)
}
