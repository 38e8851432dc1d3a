package pager_test

import (
	"bytes"
	"iter"
	"math/rand"
	"slices"
	"testing"

	"terrier/api"
	"terrier/disk"
	"terrier/page"
	"terrier/pager"
)

// state is a commit as who looks at its tree knows it: its root, and what each page has that isn't spare and not the chain's.
type state struct {
	txn   uint64
	root  int
	pages map[int][]byte
}

// stateOf is that of a plain pager's last commit.
func stateOf(q *plain) state {
	s := state{q.txn, q.root, map[int][]byte{}}
	for _, id := range q.those(used) {
		s.pages[id] = q.store.on[id]
	}
	return s
}

// mustStandAt asks that a pager, just opened on a disk, is at a commit: its root, and each of its pages as it was, none of them spare.
func mustStandAt(t *testing.T, d *disk.Disk, p *pager.Pager, s state) {
	t.Helper()
	if p.Txn() != s.txn || p.Root() != s.root {
		t.Fatalf("Txn, Root: %d, %d; want %d, %d", p.Txn(), p.Root(), s.txn, s.root)
	}
	rest := p.Spare()
	for id, want := range s.pages {
		if b, e := d.Read(id); e != api.OK || !bytes.Equal(b, want) {
			t.Fatalf("the page %d has % x, %d; want % x", id, b, e, want)
		}
		if slices.Contains(rest, id) {
			t.Fatalf("the page %d is spare, and of the commit %d", id, s.txn)
		}
	}
}

// crashes goes through the disks that a crash may leave of one: of the pages in the cache any are kept, the others lost; and each page is torn behind so many bytes, with all others kept, with all lost, with some.
func crashes(d *disk.Disk, cuts []int) iter.Seq[*disk.Disk] {
	in := d.Cached()
	r := rand.New(rand.NewSource(int64(len(in))))
	return func(yield func(*disk.Disk) bool) {
		crashed := func(keep []disk.Keep) bool {
			c := d.Copy()
			c.Crash(keep...)
			return yield(c)
		}
		for some := range 1 << len(in) {
			if !crashed(kept(in, some)) {
				return
			}
		}
		for _, id := range in {
			for _, n := range cuts {
				for _, some := range []int{0, 1<<len(in) - 1, r.Intn(1 << len(in))} {
					if !crashed(append(kept(in, some), disk.Keep{Page: id, Bytes: n})) {
						return
					}
				}
			}
		}
	}
}

// kept is a Keep for each of these pages whose bit is set.
func kept(in []int, some int) []disk.Keep {
	var out []disk.Keep
	for i, id := range in {
		if some>>i&1 == 1 {
			out = append(out, disk.Keep{Page: id, Bytes: 256})
		}
	}
	return out
}

// stories are transactions ahead of whose commit a disk is as it was formatted, or has some commits; each tells what it adds, drops and sets.
func stories() []func(*testing.T, *twin) {
	fill := func(t *testing.T, w *twin) {
		w.add(t, 3)
		w.setRoot(w.q.those(fresh)[1])
		w.commit(t)
	}
	return []func(*testing.T, *twin){
		func(t *testing.T, w *twin) {},
		func(t *testing.T, w *twin) { w.add(t, 1); w.setRoot(3) },
		func(t *testing.T, w *twin) { w.add(t, 4); w.setRoot(4) },
		func(t *testing.T, w *twin) { fill(t, w) },
		func(t *testing.T, w *twin) { fill(t, w); w.add(t, 1); w.drop(t, 4); w.setRoot(w.q.those(fresh)[0]) },
		func(t *testing.T, w *twin) { fill(t, w); w.drop(t, 3, 4, 5); w.setRoot(0) },
		func(t *testing.T, w *twin) {
			fill(t, w)
			w.commit(t)
			w.commit(t)
			w.drop(t, 3, 5)
			w.add(t, 1)
			w.setRoot(w.q.those(fresh)[0])
		},
		func(t *testing.T, w *twin) {
			fill(t, w)
			w.add(t, 2)
			w.drop(t, 3, 4)
			w.commit(t)
			w.add(t, 1)
			w.drop(t, 5)
			w.setRoot(w.q.those(fresh)[0])
		},
	}
}

// mustCrash lets the power go behind each number of writes and syncs in the commit of a story, and in each way.
func mustCrash(t *testing.T, size int, story func(*testing.T, *twin), cuts []int) {
	t.Helper()
	for fuse := 0; ; fuse++ {
		w := twinOf(t, formatted(t, size))
		story(t, w)
		ops, _, _ := w.q.plan()
		before, _ := openPlain(w.q.store.apart())
		after := behind(w.q)
		w.d.Fuse(fuse)
		e := w.p.Commit()
		mustBe(t, "Commit", e, w.q.commit(fuse))
		place := int(after.txn % 2)
		for c := range crashes(w.d, cuts) {
			b, _ := c.Read(place)
			if fuse >= len(ops)-1 && bytes.Equal(b, after.store.on[place]) {
				mustGoOn(t, c, stateOf(after))
			} else if e == api.OK {
				t.Fatal("the meta of a commit that was told OK is gone")
			} else {
				mustGoOn(t, c, stateOf(before))
			}
		}
		if fuse >= len(ops) {
			break
		}
	}
}

// behind is a plain pager as it will be behind its commit, if nothing fails.
func behind(q *plain) *plain {
	after, _ := openPlain(q.store.apart())
	after.plainNow = q.plainNow.apart()
	after.commit(-1)
	return after
}

// TestCrashInCommit: P7.4, each number of writes and syncs in a commit after which the power goes, and each way in which a crash may keep, lose or tear what was written.
func TestCrashInCommit(t *testing.T) {
	for _, size := range []int{8, 9} {
		for _, story := range stories() {
			mustCrash(t, size, story, upTo(0, 257))
		}
	}
}

// TestCrashInLongChain: P7.4, the same where the chain has more than one page, or gets more or fewer than the one that was.
func TestCrashInLongChain(t *testing.T) {
	cuts := []int{1, 4, 5, 13, 19, 100, 255}
	for _, size := range []int{62, 63, 123, 130} {
		for _, story := range stories() {
			mustCrash(t, size, story, cuts)
		}
		mustCrash(t, size, func(t *testing.T, w *twin) {
			w.add(t, size)
			w.commit(t)
			w.drop(t, w.q.those(used)...)
		}, cuts)
		mustCrash(t, size, func(t *testing.T, w *twin) {
			w.add(t, 2)
			w.commit(t)
			w.drop(t, 2+least(size-2))
			w.setRoot(3 + least(size-2))
		}, cuts)
	}
}

// mustGoOn asks that a disk opens at a commit, and that one may go on from there: a page added, committed, and found behind the next crash, the commit's pages as they were.
func mustGoOn(t *testing.T, d *disk.Disk, s state) {
	t.Helper()
	p := mustOpen(t, d)
	mustStandAt(t, d, p, s)
	id, e := p.Add(leaf("on"))
	if e == api.ErrNoSpace {
		mustCommit(t, p)
		d.Crash()
		s.txn++
		mustStandAt(t, d, mustOpen(t, d), s)
		return
	}
	if _, found := s.pages[id]; found || e != api.OK {
		t.Fatalf("Add: %d, %d, which is of the commit %d", id, e, s.txn)
	}
	p.SetRoot(id)
	mustCommit(t, p)
	d.Crash()
	next := state{s.txn + 1, id, map[int][]byte{id: bytesOf(written(leaf("on"), s.txn+1))}}
	for id, b := range s.pages {
		next.pages[id] = b
	}
	mustStandAt(t, d, mustOpen(t, d), next)
}

// TestCrashInFormat: P7.1, each number of writes and syncs in a formatting after which the power goes, and each way of a crash: on a new disk there is then nothing, or a database without pages; wherever it is formatted anew, all is well.
func TestCrashInFormat(t *testing.T) {
	ops := formatOps(8)
	for _, d := range []*disk.Disk{made(t, 8), formatted(t, 8), junk(t, rand.New(rand.NewSource(8)), 8), busy(t, 8)} {
		for fuse := range len(ops) + 1 {
			d := d.Copy()
			d.Fuse(fuse)
			e := pager.Format(d)
			mustBe(t, "Format", e, blank(8).run(ops, fuse))
			for c := range crashes(d, upTo(0, 257)) {
				q, f := openPlain(storeOf(t, c))
				if f != api.OK {
					mustNotOpen(t, "formatted in part", c, f)
				} else {
					mustBeLike(t, mustOpen(t, c), q)
				}
				if e == api.OK {
					mustTell(t, mustOpen(t, c), 1, 0, 3, 4, 5, 6, 7)
				}
				mustBe(t, "Format", pager.Format(c), api.OK)
				mustTell(t, mustOpen(t, c), 1, 0, 3, 4, 5, 6, 7)
			}
		}
	}
}

// TestCrashInFormatOfNew: P7.1, on a disk of noughts: no meta, or the first one, at which nothing is spare, or both.
func TestCrashInFormatOfNew(t *testing.T) {
	for _, c := range []struct {
		keep  []disk.Keep
		want  api.Errno
		txn   uint64
		spare []int
	}{
		{nil, api.ErrNone, 0, nil},
		{[]disk.Keep{{Page: 2, Bytes: 256}}, api.ErrNone, 0, nil},
		{[]disk.Keep{{Page: 0, Bytes: 29}}, api.ErrNone, 0, nil},
		{[]disk.Keep{{Page: 0, Bytes: 30}}, api.OK, 0, nil}, // all behind these bytes are noughts
		{[]disk.Keep{{Page: 0, Bytes: 256}, {Page: 2, Bytes: 256}}, api.OK, 0, nil},
		{[]disk.Keep{{Page: 0, Bytes: 256}, {Page: 1, Bytes: 255}, {Page: 2, Bytes: 256}}, api.OK, 0, nil},
		{[]disk.Keep{{Page: 1, Bytes: 256}}, api.ErrSum, 0, nil},
		{[]disk.Keep{{Page: 0, Bytes: 256}, {Page: 1, Bytes: 256}, {Page: 2, Bytes: 10}}, api.ErrSum, 0, nil},
		{[]disk.Keep{{Page: 1, Bytes: 256}, {Page: 2, Bytes: 256}}, api.OK, 1, []int{3, 4, 5, 6, 7}},
	} {
		d := made(t, 8)
		d.Fuse(3)
		mustBe(t, "Format", pager.Format(d), api.ErrDead)
		mustNotOpen(t, "dead", d, api.ErrDead)
		d.Crash(c.keep...)
		if c.want == api.OK {
			mustTell(t, mustOpen(t, d), c.txn, 0, c.spare...)
		} else {
			mustNotOpen(t, "formatted in part", d, c.want)
		}
	}
}

// TestCrashTwice: P7.4, the power goes in a commit, and, behind an opening, in the next one, too, over what the first one left.
func TestCrashTwice(t *testing.T) {
	r := rand.New(rand.NewSource(6))
	for range 300 {
		w := twinOf(t, formatted(t, 8))
		w.add(t, 2)
		w.setRoot(3)
		w.commit(t)
		was := stateOf(w.q)
		for range 4 {
			w.add(t, r.Intn(3))
			w.setRoot([]int{0, 3, 4}[r.Intn(3)])
			after := behind(w.q)
			fuse := r.Intn(7)
			w.d.Fuse(fuse)
			mustBe(t, "Commit", w.p.Commit(), w.q.commit(fuse))
			var keep []disk.Keep
			for id := range 8 {
				keep = append(keep, disk.Keep{Page: id, Bytes: []int{0, 256, 255, r.Intn(257)}[r.Intn(4)]})
			}
			w.d.Crash(keep...)
			w = twinOf(t, w.d)
			if w.q.txn == after.txn {
				was = stateOf(after)
			}
			mustStandAt(t, w.d, w.p, was)
		}
	}
}

// TestCrashBetween: P7.4, when the power goes between two commits, nothing that was committed is lost, and all that wasn't is.
func TestCrashBetween(t *testing.T) {
	w := twinOf(t, formatted(t, 9))
	w.add(t, 3)
	w.setRoot(3)
	w.commit(t)
	s := stateOf(w.q)
	mustAdd(t, w.p, leaf("lost"), 2)
	mustDrop(t, w.p, 3, 4)
	w.p.SetRoot(2)
	w.d.Crash()
	p := mustOpen(t, w.d)
	mustStandAt(t, w.d, p, s)
	mustBeLike(t, p, w.q)
	mustCommit(t, w.p) // the first pager is as it was: its pages are its own
	mustTell(t, mustOpen(t, w.d), 3, 2, 3, 4, 6, 8)
	mustRead(t, w.p, 2, written(leaf("lost"), 3))
	mustRead(t, w.p, 3, written(leaf("1 0"), 2))
	mustRead(t, w.p, 6, written(page.Page{Kind: page.Spare, IDs: []int{2, 7, 8}}, 2))
}
