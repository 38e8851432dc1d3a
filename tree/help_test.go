package tree_test

import (
	"bytes"
	"fmt"
	"maps"
	"slices"
	"testing"

	"terrier/api"
	"terrier/disk"
	"terrier/page"
	"terrier/pager"
	"terrier/tree"
)

// mustBe asks for this error.
func mustBe(t *testing.T, what string, got, want api.Errno) {
	t.Helper()
	if got != want {
		t.Fatalf("%s: %d; want %d", what, got, want)
	}
}

// opened is a pager of a disk that was formatted.
func opened(t *testing.T, size int) (*disk.Disk, *pager.Pager) {
	t.Helper()
	d := disk.New(size)
	mustBe(t, "Format", pager.Format(d), api.OK)
	p, e := pager.Open(d)
	mustBe(t, "Open", e, api.OK)
	return d, p
}

// twin is a tree and a plain list, of which each is told the same.
type twin struct {
	d     *disk.Disk
	p     *pager.Pager
	root  int
	list  list
	fresh map[int]bool      // the tree's pages that were added since the last commit
	old   map[int]page.Page // the pages of the last commit's tree, as they were
	base  list              // what the last commit's tree has
}

// twinOf is one on a disk of so many pages.
func twinOf(t *testing.T, size int) *twin {
	t.Helper()
	d, p := opened(t, size)
	return &twin{d: d, p: p, fresh: map[int]bool{}}
}

// apart is the twin as it is, to go back to.
func (w *twin) apart() twin {
	out := *w
	out.fresh = maps.Clone(w.fresh)
	return out
}

// leastRoom: with how many spare pages one may be added (chapter 7).
func (w *twin) leastRoom() int { return w.d.Size()/60 + 2 }

// pages are those of the tree.
func (w *twin) pages(t *testing.T) []int {
	t.Helper()
	l, ok := look(w.p, w.root)
	if !ok {
		t.Fatalf("what stands at %d is no tree", w.root)
	}
	return l.pages
}

// changed does a change that answers the new root, and asks which pages it took and gave back.
func (w *twin) changed(t *testing.T, what string, do func() int) {
	t.Helper()
	was, spare, txn, of := w.pages(t), w.p.Spare(), w.p.Txn(), w.p.Root()
	w.root = do()
	if w.p.Txn() != txn || w.p.Root() != of {
		t.Fatalf("%s: the pager's Txn, Root: %d, %d; want %d, %d", what, w.p.Txn(), w.p.Root(), txn, of)
	}
	now := w.pages(t)
	want := slices.DeleteFunc(slices.Clone(spare), func(id int) bool { return slices.Contains(now, id) })
	for _, id := range was {
		if !slices.Contains(now, id) && w.fresh[id] {
			want = append(want, id)
			delete(w.fresh, id)
		}
	}
	slices.Sort(want)
	for _, id := range now {
		if !slices.Contains(was, id) {
			w.fresh[id] = true
		}
	}
	if got := w.p.Spare(); !slices.Equal(got, want) {
		t.Fatalf("%s: spare are %v; want %v; the tree's pages %v, %v ahead", what, got, want, now, was)
	}
	w.mustTell(t, what)
}

// put puts into both.
func (w *twin) put(t *testing.T, key string, value []byte) {
	t.Helper()
	what := fmt.Sprintf("Put(%q, %d bytes)", key, len(value))
	w.list = w.list.with([]byte(key), value)
	w.changed(t, what, func() int {
		root, e := tree.Put(w.p, w.root, []byte(key), value)
		mustBe(t, what, e, api.OK)
		return root
	})
}

// delete deletes from both.
func (w *twin) delete(t *testing.T, key string) {
	t.Helper()
	what := fmt.Sprintf("Delete(%q)", key)
	_, found := w.list.at([]byte(key))
	w.list = w.list.without([]byte(key))
	was := w.root
	w.changed(t, what, func() int {
		root, done, e := tree.Delete(w.p, w.root, []byte(key))
		mustBe(t, what, e, api.OK)
		if done != found {
			t.Fatalf("%s: %v; want %v", what, done, found)
		}
		return root
	})
	if !found && w.root != was || len(w.list) == 0 && w.root != 0 {
		t.Fatalf("%s, %v: the root %d; ahead %d; %d keys", what, found, w.root, was, len(w.list))
	}
}

// mustTell asks that the tree is one, and has what the list has.
func (w *twin) mustTell(t *testing.T, what string) {
	t.Helper()
	mustHave(t, what, w.p, w.root, w.list)
}

// mustHave asks that there is a tree with these keys and values, by the chapter's words, by Walk, by Check and by Pages.
func mustHave(t *testing.T, what string, p *pager.Pager, root int, want list) {
	t.Helper()
	l, ok := look(p, root)
	if !ok {
		t.Fatalf("%s: what stands at %d is no tree", what, root)
	}
	if !samePairs(l.pairs, want) {
		t.Fatalf("%s: the tree %d has %q; want %q", what, root, l.pairs, want)
	}
	mustWalk(t, p, root, nil, nil, 0, want)
	mustBe(t, what+": Check", tree.Check(p, root), api.OK)
	if ids, e := tree.Pages(p, root); e != api.OK || !slices.Equal(ids, l.pages) {
		t.Fatalf("%s: Pages: %v, %d; want %v", what, ids, e, l.pages)
	}
}

// mustWalk asks what a Walk tells.
func mustWalk(t *testing.T, p *pager.Pager, root int, from, to []byte, limit int, want list) {
	t.Helper()
	if got, e := tree.Walk(p, root, from, to, limit); e != api.OK || !samePairs(got, want) {
		t.Fatalf("Walk(%q, %q, %d): %q, %d; want %q", from, to, limit, got, e, want)
	}
}

// mustGet asks for a key's value in both.
func (w *twin) mustGet(t *testing.T, key string) {
	t.Helper()
	var want []byte
	i, found := w.list.at([]byte(key))
	if found {
		want = w.list[i].Value
	}
	got, ok, e := tree.Get(w.p, w.root, []byte(key))
	if e != api.OK || ok != found || !bytes.Equal(got, want) {
		t.Fatalf("Get(%q): %q, %v, %d; want %q, %v", key, got, ok, e, want, found)
	}
}

// commit commits the tree, and asks that no page is left over.
func (w *twin) commit(t *testing.T) {
	t.Helper()
	w.p.SetRoot(w.root)
	mustBe(t, "Commit", w.p.Commit(), api.OK)
	w.committed(t)
}

// committed keeps what the last commit has.
func (w *twin) committed(t *testing.T) {
	t.Helper()
	w.fresh, w.old, w.base = map[int]bool{}, map[int]page.Page{}, w.list
	mine := w.pages(t)
	for _, id := range mine {
		w.old[id], _ = w.p.Read(id)
	}
	other := w.d.Size() - 2 - len(mine)
	chain := (other + 59) / 60
	if got := len(w.p.Spare()); got != other-chain {
		t.Fatalf("behind a commit of %d pages, with a chain of %d, %d of %d are spare", len(mine), chain, got, w.d.Size())
	}
	w.mustTell(t, "behind a commit")
}

// mustKeep asks that the last commit's tree is as it was.
func (w *twin) mustKeep(t *testing.T) {
	t.Helper()
	for id, want := range w.old {
		if x, e := w.p.Read(id); e != api.OK || !samePage(x, want) {
			t.Fatalf("the committed page %d is %+v, %d; it was %+v", id, x, e, want)
		}
	}
	mustHave(t, "the last commit", w.p, w.p.Root(), w.base)
}

// reopen opens the disk behind a crash: all since the last commit is gone.
func (w *twin) reopen(t *testing.T) {
	t.Helper()
	w.d.Crash()
	p, e := pager.Open(w.d)
	mustBe(t, "Open", e, api.OK)
	w.p, w.root, w.list = p, p.Root(), w.base
	w.committed(t)
}

// samePage: have they the same?
func samePage(a, b page.Page) bool {
	x, e := page.Encode(a)
	y, f := page.Encode(b)
	return e == api.OK && f == api.OK && bytes.Equal(x, y)
}

// text is so many bytes, which differ by n.
func text(n, length int) []byte {
	out := make([]byte, length)
	for i := range out {
		out[i] = byte(n + i*7 + i/256)
	}
	return out
}

// lengths are those of values at which something changes.
func lengths() []int {
	return []int{0, 1, 2, 63, 64, 65, 66, 236, 237, 238, 473, 474, 475, 710, 711, 712, 4028, 4029, 4030, 4095, 4096}
}

// long is a key of 32 bytes, that differs at its end alone.
func long(n int) string { return fmt.Sprintf("%032d", n) }

// short is a key of two bytes.
func short(n int) string { return string([]byte{byte(n >> 8), byte(n)}) }

// order is 0 to n - 1: 0: rising, 1: falling, 2: the even ones and then the odd ones backwards, 3: by steps of 7 (n isn't one of its multiples).
func order(way, n int) []int {
	var out []int
	for i := range n {
		switch way {
		case 0:
			out = append(out, i)
		case 1:
			out = append(out, n-1-i)
		case 2:
			if 2*i < n {
				out = append(out, 2*i)
			} else {
				out = append(out, 2*(n-1-i)+1)
			}
		case 3:
			out = append(out, i*7%n)
		}
	}
	return out
}
