package pager_test

import (
	"fmt"
	"math"
	"math/rand"
	"slices"
	"testing"

	"terrier/api"
	"terrier/disk"
	"terrier/page"
	"terrier/pager"
)

// twin is a pager and a plain one, of which each is told the same.
type twin struct {
	d *disk.Disk
	p *pager.Pager
	q *plain
}

// twinOf opens both on a disk.
func twinOf(t *testing.T, d *disk.Disk) *twin {
	t.Helper()
	q, e := openPlain(storeOf(t, d))
	mustBe(t, "the plain Open", e, api.OK)
	w := &twin{d, mustOpen(t, d), q}
	mustTell(t, w.p, q.txn, q.root, q.those(spare)...)
	return w
}

// add adds so many pages to both.
func (w *twin) add(t *testing.T, n int) {
	t.Helper()
	for i := range n {
		x := leaf(fmt.Sprint(w.q.txn, " ", i))
		want, f := w.q.add(x)
		if id, e := w.p.Add(x); id != want || e != f {
			t.Fatalf("Add: %d, %d; want %d, %d", id, e, want, f)
		}
	}
}

// drop drops pages of both.
func (w *twin) drop(t *testing.T, ids ...int) {
	t.Helper()
	for _, id := range ids {
		mustBe(t, fmt.Sprintf("Drop(%d)", id), w.p.Drop(id), w.q.drop(id))
	}
}

// setRoot sets both roots.
func (w *twin) setRoot(id int) {
	w.p.SetRoot(id)
	w.q.setRoot(id)
}

// commit commits both, and asks what the disk has, how much was done to it, and that all of it is synced.
func (w *twin) commit(t *testing.T) {
	t.Helper()
	ops, _, _ := w.q.plan()
	done := w.d.Done()
	mustBe(t, "Commit", w.p.Commit(), w.q.commit(-1))
	if got := w.d.Done() - done; got != len(ops) {
		t.Fatalf("Commit: %d writes and syncs; want %d", got, len(ops))
	}
	mustHave(t, "behind a commit", w.d, w.q.store)
	w.d.Crash()
	mustHave(t, "behind a commit and a crash", w.d, w.q.store)
	mustBeLike(t, w.p, w.q)
}

// mustReopen asks that an opening tells the same.
func (w *twin) mustReopen(t *testing.T) {
	t.Helper()
	mustBeLike(t, mustOpen(t, w.d), w.q)
}

// TestCommitBytes: P7.3, in numbers: a commit with two pages added and one dropped, byte by byte.
func TestCommitBytes(t *testing.T) {
	d, p := opened(t, 8)
	mustAdd(t, p, leaf("a"), 3)
	mustAdd(t, p, leaf("b"), 4)
	p.SetRoot(4)
	mustCommit(t, p)
	want := map[int][]byte{
		0: metaBytes(2, 4, 5, 8), 1: metaBytes(1, 0, 2, 8), 2: spareBytes(1, 0, 3, 4, 5, 6, 7),
		3: bytesOf(written(leaf("a"), 2)), 4: bytesOf(written(leaf("b"), 2)), 5: spareBytes(2, 0, 2, 6, 7),
	}
	mustStand(t, d, want)
	mustTell(t, p, 2, 4, 2, 6, 7)
	mustAdd(t, p, leaf("c"), 2)
	mustDrop(t, p, 3)
	p.SetRoot(2)
	mustCommit(t, p)
	want[1], want[2], want[6] = metaBytes(3, 2, 6, 8), bytesOf(written(leaf("c"), 3)), spareBytes(3, 0, 3, 5, 7)
	mustStand(t, d, want)
	mustTell(t, p, 3, 2, 3, 5, 7)
}

// mustStand asks for what each page of a disk has, noughts if nothing is said of it.
func mustStand(t *testing.T, d *disk.Disk, want map[int][]byte) {
	t.Helper()
	s := blank(d.Size())
	for id, b := range want {
		s.on[id] = b
	}
	mustHave(t, "what stands there", d, s)
}

// TestCommitNothing: P7.3, a commit of nothing has a new chain and a new meta, and no other page is written.
func TestCommitNothing(t *testing.T) {
	for _, size := range sizes() {
		w := twinOf(t, formatted(t, size))
		for range 5 {
			w.commit(t)
		}
		w.mustReopen(t)
	}
}

// TestCommitMany: P7.3, one behind the other, with pages added and dropped; each is found by an opening, and the pager goes on.
func TestCommitMany(t *testing.T) {
	for _, size := range sizes() {
		w := twinOf(t, formatted(t, size))
		for n := range 12 {
			w.add(t, 1+n%4)
			old := w.q.those(used)
			w.drop(t, old[:min(len(old), n%4)]...)
			w.setRoot(w.q.those(fresh)[0])
			w.commit(t)
			w.mustReopen(t)
		}
	}
}

// TestCommitFull: P7.3, a disk filled up to the bound, committed, emptied, committed, again and again.
func TestCommitFull(t *testing.T) {
	for _, size := range sizes() {
		w := twinOf(t, formatted(t, size))
		for range 3 {
			w.add(t, size)
			w.setRoot(w.q.those(fresh)[0])
			w.commit(t)
			w.add(t, size)
			w.commit(t)
			w.drop(t, w.q.those(used)...)
			w.setRoot(0)
			w.commit(t)
			w.commit(t)
		}
		w.mustReopen(t)
	}
}

// TestCommitChain: P7.3, of each number of pages that a chain and its list may have, as spare ones, or, all but those that the chain needs, as held or chain pages.
func TestCommitChain(t *testing.T) {
	for pages := 2; pages <= 245; pages++ {
		w := twinOf(t, withChain(t, 250, []int{3}, without(upTo(2, pages+2), 3)[:min(pages-1, 59)]))
		w.drop(t, without(upTo(2, pages+2), append(w.q.those(spare), 3)...)...)
		w.commit(t)
		if k := (pages + 59) / 60; len(w.q.chain) != k || pages-k > 59*k || pages-k+1 <= 59*(k-1) {
			t.Fatalf("of %d pages the chain has %d", pages, len(w.q.chain))
		}
		w.mustReopen(t)
		w.commit(t)
	}
}

// without are all of these numbers but those.
func without(all []int, those ...int) []int {
	return slices.DeleteFunc(slices.Clone(all), func(id int) bool { return slices.Contains(those, id) })
}

// TestCommitLists: P7.3, in numbers: how many pages list how many, each but the last one 59.
func TestCommitLists(t *testing.T) {
	for _, c := range []struct {
		pages int
		lists []int
	}{
		{2, []int{1}}, {3, []int{2}}, {59, []int{58}}, {60, []int{59}}, {61, []int{59, 0}}, {62, []int{59, 1}}, {119, []int{59, 58}},
		{120, []int{59, 59}}, {121, []int{59, 59, 0}}, {122, []int{59, 59, 1}}, {180, []int{59, 59, 59}}, {181, []int{59, 59, 59, 0}},
	} {
		d := withChain(t, 300, []int{100}, without(upTo(2, 61), 100)[:min(c.pages-1, 59)])
		p := mustOpen(t, d)
		for id := 101; len(p.Spare())+1+id-101 < c.pages; id++ {
			mustDrop(t, p, id)
		}
		mustCommit(t, p)
		for at := 2; at < 2+len(c.lists); at++ {
			b, _ := d.Read(at)
			x, e := page.Decode(b)
			if e != api.OK || len(x.IDs) != c.lists[at-2] || x.Kind != page.Spare || x.Txn != 5 {
				t.Fatalf("of %d pages the chain page %d is %+v, %d; want %d numbers", c.pages, at, x, e, c.lists[at-2])
			}
			if last := at == 1+len(c.lists); last && x.Next != 0 || !last && x.Next != at+1 {
				t.Fatalf("of %d pages the chain page %d has Next %d", c.pages, at, x.Next)
			}
		}
		mustNotDrop(t, p, api.ErrExist, upTo(2, 2+len(c.lists))...)
		mustSpare(t, mustOpen(t, d), p.Spare()...)
	}
}

// TestCommitNone: P7.3, of no page that is spare, held or the chain's: Spare 0, and it may go on so; of one that is spare there is a chain of nothing.
func TestCommitNone(t *testing.T) {
	d := withChain(t, 8, nil, nil)
	w := twinOf(t, d)
	w.setRoot(3)
	for txn := uint64(5); txn < 9; txn++ {
		w.commit(t)
		b, _ := d.Read(int(txn % 2))
		if !slices.Equal(b, metaBytes(txn, 3, 0, 8)) {
			t.Fatalf("the meta is % x", b)
		}
		w.mustReopen(t)
	}
	mustBe(t, "Drop", w.p.Drop(5), w.q.drop(5))
	w.commit(t) // refused: there is a page to list, but none for the chain
	mustBe(t, "Commit", w.p.Commit(), api.ErrNoSpace)
	mustTell(t, w.p, 8, 3)
}

// TestCommitNoSpace: R3, a disk that has too few spare pages for its chain: nothing is written, nothing has changed, and behind a Back, or a page that is spare again, it commits.
func TestCommitNoSpace(t *testing.T) {
	w := twinOf(t, withChain(t, 130, []int{3}, []int{9}))
	s := w.p.Save()
	was := w.q.apart()
	w.drop(t, upTo(10, 69)...)
	done := w.d.Done()
	for range 2 {
		w.commit(t)
		mustBe(t, "Commit", w.p.Commit(), api.ErrNoSpace)
		mustTell(t, w.p, 4, 0, 9)
		mustNotDrop(t, w.p, api.ErrExist, 3, 9, 10, 68)
	}
	if w.d.Done() != done {
		t.Fatal("a commit that is refused writes")
	}
	w.p.Back(s)
	w.q.plainNow = was
	w.drop(t, upTo(10, 68)...)
	w.commit(t)
	mustTell(t, w.p, 5, 0, append([]int{3}, upTo(10, 68)...)...)
	p := mustOpen(t, withChain(t, 8, []int{3}, nil))
	mustBe(t, "Commit", p.Commit(), api.ErrNoSpace)
	mustTell(t, p, 4, 0)
}

// TestCommitUnordered: P7.3, the next chain rises, however the one that was stood.
func TestCommitUnordered(t *testing.T) {
	r := rand.New(rand.NewSource(5))
	for range 60 {
		size := 130 + r.Intn(60)
		w := twinOf(t, anyDisk(t, r, size))
		w.add(t, r.Intn(9))
		w.commit(t)
		w.commit(t)
		w.mustReopen(t)
	}
}

// anyDisk is one whose pages are used, or listed, or the chain's, in any order.
func anyDisk(t *testing.T, r *rand.Rand, size int) *disk.Disk {
	t.Helper()
	var all []int
	for _, i := range r.Perm(size - 2) {
		all = append(all, i+2)
	}
	chain := all[:1+r.Intn(4)]
	all = all[len(chain):]
	var ops []op
	for i, id := range chain {
		next, here := 0, r.Intn(min(60, len(all)+1))
		if i+1 < len(chain) {
			next = chain[i+1]
		}
		ids := slices.Sorted(slices.Values(all[:here]))
		ops, all = append(ops, op{id, spareBytes(4, next, ids...)}), all[here:]
	}
	for _, id := range all {
		ops = append(ops, op{id, bytesOf(leaf(fmt.Sprint(id)))})
	}
	return laid(t, size, append(ops, op{0, metaBytes(4, 0, chain[0], size)}))
}

// TestCommitOrder: P7.3, in which order it writes, and what: with a fuse of n just the first n writes and syncs are done.
func TestCommitOrder(t *testing.T) {
	for _, size := range []int{8, 62, 63, 130, 200} {
		for adds := range 4 {
			for fuse := 0; ; fuse++ {
				w := twinOf(t, busy(t, size))
				w.drop(t, w.q.those(used)...)
				w.commit(t)
				w.commit(t)
				w.add(t, adds+1)
				w.drop(t, w.q.those(fresh)[0])
				w.setRoot(w.q.those(fresh, spare)[0])
				ops, _, _ := w.q.plan()
				w.d.Fuse(fuse)
				want := w.q.commit(fuse)
				mustBe(t, "Commit", w.p.Commit(), want)
				mustCache(t, w.d, w.q.store)
				if fuse > len(ops) {
					break
				}
			}
		}
	}
}

// TestCommitLastSync: P7.3, a fuse that burns behind the last sync: it is done, and only then the disk is dead.
func TestCommitLastSync(t *testing.T) {
	w := twinOf(t, formatted(t, 8))
	w.add(t, 2)
	w.d.Fuse(6)
	mustBe(t, "Commit", w.p.Commit(), api.OK)
	mustTell(t, w.p, 2, 0, 2, 6, 7)
	mustNotRead(t, w.p, api.ErrDead, 3)
	mustAdd(t, w.p, leaf("x"), 2)
	w.d.Crash()
	mustRead(t, w.p, 3, written(leaf("1 0"), 2))
	mustCommit(t, w.p)
}

// TestCommitTxn: P7.3, the number goes on from any other one, and tells the meta's place.
func TestCommitTxn(t *testing.T) {
	for _, txn := range []uint64{0, 1, 2, 255, 256, 1<<32 - 1, 1 << 32, 1<<63 - 1, 1 << 63, math.MaxUint64 - 2, math.MaxUint64 - 1} {
		d := laid(t, 9, []op{{int(txn % 2), metaBytes(txn, 0, 2, 9)}, {2, spareBytes(txn, 0, 3, 4, 5)}})
		p := mustOpen(t, d)
		mustAdd(t, p, leaf("x"), 3)
		mustRead(t, p, 3, written(leaf("x"), txn+1))
		mustCommit(t, p)
		mustStand(t, d, map[int][]byte{int(txn % 2): metaBytes(txn, 0, 2, 9), 2: spareBytes(txn, 0, 3, 4, 5),
			int((txn + 1) % 2): metaBytes(txn+1, 0, 4, 9), 3: bytesOf(written(leaf("x"), txn+1)), 4: spareBytes(txn+1, 0, 2, 5)})
		mustTell(t, mustOpen(t, d), txn+1, 0, 2, 5)
	}
}

// TestDead: P7.3, beside a disk's error, wherever it comes, all calls are ErrDead from then on, even if the disk isn't dead any more; Txn, Root and Spare are as they were.
func TestDead(t *testing.T) {
	for fuse := range 6 {
		d, p := opened(t, 8)
		mustAdd(t, p, leaf("a"), 3)
		p.SetRoot(3)
		s := p.Save()
		mustAdd(t, p, leaf("b"), 4)
		p.SetRoot(4)
		d.Fuse(fuse)
		mustBe(t, "Commit", p.Commit(), api.ErrDead)
		for range 2 {
			mustBeDead(t, p, s)
			mustTell(t, p, 1, 4, 5, 6, 7)
			done := d.Done()
			d.Crash(disk.Keep{Page: 0, Bytes: 256}, disk.Keep{Page: 3, Bytes: 256})
			mustBeDead(t, p, s)
			mustTell(t, p, 1, 4, 5, 6, 7)
			if d.Done() != done {
				t.Fatal("a dead pager writes")
			}
		}
		q := mustOpen(t, d)
		q.Back(p.Save())
		mustCommit(t, q)
		mustTell(t, p, 1, 4, 5, 6, 7)
	}
}

// mustBeDead asks it for all that there is.
func mustBeDead(t *testing.T, p *pager.Pager, s pager.Saved) {
	t.Helper()
	for _, id := range append(outside(8), upTo(2, 8)...) {
		mustNotRead(t, p, api.ErrDead, id)
		mustNotDrop(t, p, api.ErrDead, id)
		p.SetRoot(id)
	}
	for _, x := range append(rights(), wrongs()...) {
		mustNotAdd(t, p, x, api.ErrDead)
	}
	p.Back(s)
	p.Back(p.Save())
	mustBe(t, "Commit", p.Commit(), api.ErrDead)
}
