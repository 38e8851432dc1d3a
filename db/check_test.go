package db_test

import (
	"fmt"
	"testing"

	"terrier/api"
	"terrier/db"
	"terrier/disk"
	"terrier/page"
)

// add adds a page.
func (h *hand) add(t *testing.T, x page.Page) int {
	t.Helper()
	id, e := h.p.Add(x)
	mustBe(t, fmt.Sprintf("Add(%+v)", x), e, api.OK)
	return id
}

// leaf adds a Leaf with these keys, of values without bytes.
func (h *hand) leaf(t *testing.T, keys ...string) int {
	t.Helper()
	x := page.Page{Kind: page.Leaf}
	for _, key := range keys {
		x.Items = append(x.Items, page.Item{Key: []byte(key)})
	}
	return h.add(t, x)
}

// branch adds a Branch of two kids.
func (h *hand) branch(t *testing.T, low int, key string, high int) int {
	t.Helper()
	return h.add(t, page.Page{Kind: page.Branch, Kids: []page.Kid{{Page: low}, {Key: []byte(key), Page: high}}})
}

// long adds a Leaf with a key and a value that stands there.
func (h *hand) long(t *testing.T, key string, size, more int) int {
	t.Helper()
	return h.add(t, page.Page{Kind: page.Leaf, Items: []page.Item{{Key: []byte(key), Size: size, More: more}}})
}

// piece adds a Piece.
func (h *hand) piece(t *testing.T, length, next int) int {
	t.Helper()
	return h.add(t, page.Page{Kind: page.Piece, Data: text(1, length), Next: next})
}

// mustBeWrong asks that Check tells ErrForm, though the buckets can be told.
func mustBeWrong(t *testing.T, what string, b *db.DB, names ...string) {
	t.Helper()
	mustBe(t, what+": Check", b.Check(), api.ErrForm)
	for _, name := range names {
		if _, e := b.Walk(name, nil, nil, 0); e != api.OK {
			t.Fatalf("%s: Walk(%q): %d", what, name, e)
		}
	}
}

// TestCheckTwice: P9.2, a page in two trees: as both's root, beneath both, as a Piece of both, as the names' root and a bucket's.
func TestCheckTwice(t *testing.T) {
	for what, make := range map[string]func(h *hand) (a, b int){
		"one root":   func(h *hand) (int, int) { r := h.tree(t, 300, "k"); return r, r },
		"one's Leaf": func(h *hand) (int, int) { r := h.leaf(t, "k"); return r, h.branch(t, r, "l", h.leaf(t, "m")) },
		"one Leaf beneath both": func(h *hand) (int, int) {
			r := h.leaf(t, "k")
			return h.branch(t, h.leaf(t, "a"), "k", r), h.branch(t, r, "l", h.leaf(t, "m"))
		},
		"one value": func(h *hand) (int, int) {
			r := h.piece(t, 100, 0)
			return h.long(t, "k", 100, r), h.long(t, "l", 100, r)
		},
		"the end of a value": func(h *hand) (int, int) {
			r := h.piece(t, 100, 0)
			return h.long(t, "k", 337, h.piece(t, 237, r)), h.long(t, "k", 337, h.piece(t, 237, r))
		},
	} {
		h := handOf(t, 60)
		one, other := make(h)
		h.name(t, "a", four(one)...)
		h.name(t, "m", four(h.tree(t, 10, "k"))...)
		h.name(t, "z", four(other)...)
		mustBeWrong(t, what, h.open(t), "a", "m", "z")
	}
	h := handOf(t, 60)
	self := h.p.Spare()[0]
	h.name(t, "a", four(self)...)
	if h.names != self {
		t.Fatalf("the names stand at %d, not at %d", h.names, self)
	}
	b := h.open(t)
	mustWalk(t, b, "a", nil, nil, 0, list{pair("a", four(self))})
	mustBeWrong(t, "the names as a bucket", b, "a")
}

// TestCheckSpare: P9.2, a page of a tree that is spare: of a bucket's, a value's, of the names'.
func TestCheckSpare(t *testing.T) {
	for n := range 4 {
		h := handOf(t, 60)
		root := h.tree(t, 100, "k")
		h.name(t, "a", four(h.tree(t, 10, "k"))...)
		h.name(t, "b", four(root)...)
		h.commit(t)
		x, e := h.p.Read(root)
		mustBe(t, "Read", e, api.OK)
		lost := []int{0, root, x.Items[0].More, h.names}[n]
		if lost != 0 {
			mustBe(t, "Drop", h.p.Drop(lost), api.OK)
		}
		b := h.open(t)
		mustWalk(t, b, "b", nil, nil, 0, list{pair("k", text(0, 100))})
		if lost == 0 {
			mustBe(t, "Check", b.Check(), api.OK)
			continue
		}
		mustBeWrong(t, fmt.Sprint("spare is ", lost), b, "a", "b")
		if got := b.Pages(); got != 4 {
			t.Fatalf("Pages: %d; want 4", got)
		}
	}
}

// TestCheckTrees: P9.2, a bucket, or the names, whose tree is none.
func TestCheckTrees(t *testing.T) {
	for what, make := range map[string]func(h *hand) int{
		"keys that fall":       func(h *hand) int { return h.branch(t, h.leaf(t, "m"), "l", h.leaf(t, "n")) },
		"a key ahead of a kid": func(h *hand) int { return h.branch(t, h.leaf(t, "a"), "l", h.leaf(t, "k")) },
		"unlike depths": func(h *hand) int {
			return h.branch(t, h.leaf(t, "a"), "l", h.branch(t, h.leaf(t, "m"), "n", h.leaf(t, "o")))
		},
		"one kid twice":       func(h *hand) int { r := h.leaf(t, "a"); return h.branch(t, r, "b", r) },
		"Pieces with room":    func(h *hand) int { return h.long(t, "k", 200, h.piece(t, 100, h.piece(t, 100, 0))) },
		"a value that's cut":  func(h *hand) int { return h.long(t, "k", 237, h.piece(t, 236, 0)) },
		"a Piece as the root": func(h *hand) int { return h.piece(t, 9, 0) },
		"a Spare as the root": func(h *hand) int { return h.add(t, page.Page{Kind: page.Spare}) },
		"a page of the chain": func(h *hand) int { return 2 },
	} {
		h := handOf(t, 60)
		h.name(t, "a", four(h.tree(t, 10, "k"))...)
		h.name(t, "b", four(make(h))...)
		h.name(t, "c", four(h.tree(t, 10, "k"))...)
		b := h.open(t)
		mustBeWrong(t, what, b, "a", "c")
		if got := b.Pages(); got != 0 {
			t.Fatalf("%s: Pages: %d", what, got)
		}
		h = handOf(t, 60)
		h.names = make(h)
		mustBeWrong(t, what+" of names", h.open(t))
	}
}

// namesLeaf adds a Leaf of names, each of which has a bucket of its own.
func (h *hand) namesLeaf(t *testing.T, names ...string) int {
	t.Helper()
	x := page.Page{Kind: page.Leaf}
	for _, name := range names {
		x.Items = append(x.Items, page.Item{Key: []byte(name), Value: four(h.tree(t, 10, "k")), Size: 4})
	}
	return h.add(t, x)
}

// TestCheckNames: P9.2, names whose tree is none, though each of them has a bucket that is right.
func TestCheckNames(t *testing.T) {
	for what, make := range map[string]func(h *hand) int{
		"names that fall":     func(h *hand) int { return h.branch(t, h.namesLeaf(t, "a", "m"), "l", h.namesLeaf(t, "n")) },
		"a name ahead of kid": func(h *hand) int { return h.branch(t, h.namesLeaf(t, "a"), "l", h.namesLeaf(t, "k", "n")) },
		"unlike depths": func(h *hand) int {
			return h.branch(t, h.namesLeaf(t, "a"), "l", h.branch(t, h.namesLeaf(t, "m"), "n", h.namesLeaf(t, "o")))
		},
	} {
		h := handOf(t, 60)
		h.names = make(h)
		b := h.open(t)
		mustBeWrong(t, what, b, "a")
		if got := b.Pages(); got != 0 {
			t.Fatalf("%s: Pages: %d", what, got)
		}
		if l := mustBuckets(t, b); len(l) != 3 {
			t.Fatalf("%s: Buckets: %q", what, l)
		}
		if c, e := b.Copy(disk.New(60)); c != nil || e != api.ErrForm {
			t.Fatalf("%s: Copy: %v, %d", what, c, e)
		}
	}
	h := handOf(t, 60)
	h.names = h.branch(t, h.namesLeaf(t, "a", "k"), "l", h.namesLeaf(t, "l", "n"))
	b := h.open(t)
	mustBe(t, "Check of names that are right", b.Check(), api.OK)
	if got := b.Pages(); got != 7 {
		t.Fatalf("Pages: %d; want 7", got)
	}
}

// TestCheckMany: P9.2, so many names for one great tree that all of them together would have millions of pages: each call ends soon.
func TestCheckMany(t *testing.T) {
	h := handOf(t, 1024)
	var keys []string
	for i := range 1000 {
		keys = append(keys, long(i))
	}
	root := h.tree(t, 64, keys...)
	for i := range 2000 {
		h.name(t, fmt.Sprint(i), four(root)...)
	}
	b := h.open(t)
	mustBe(t, "Check", b.Check(), api.ErrForm)
	if got := b.Pages(); got != 0 {
		t.Fatalf("Pages: %d", got)
	}
	if c, e := b.Copy(disk.New(1024)); c != nil || e != api.ErrForm {
		t.Fatalf("Copy: %v, %d", c, e)
	}
	if l := mustBuckets(t, b); len(l) != 2000 {
		t.Fatalf("%d names", len(l))
	}
	if l, e := b.Walk("1999", nil, nil, 2); e != api.OK || len(l) != 2 {
		t.Fatalf("Walk: %q, %d", l, e)
	}
}

// TestCheckGreatest: P9.2, a database that has nearly all of the greatest disk is right.
func TestCheckGreatest(t *testing.T) {
	w := twinOf(t, 1024)
	for n := 0; w.tryPut(t, wide(n%5), long(n), text(n, 4096), false); n++ {
		if n%10 == 9 {
			w.commit(t)
		}
	}
	w.commit(t)
	for n := 0; w.tryPut(t, "more", long(n), text(n, 64), false); n++ {
		w.commit(t)
	}
	if got := w.b.Pages(); got < 980 {
		t.Fatalf("%d pages", got)
	}
	w.commit(t)
	w.reopen(t)
}
