package tree_test

import (
	"bytes"
	"fmt"
	"math/rand"
	"slices"
	"testing"

	"terrier/api"
	"terrier/page"
	"terrier/tree"
)

// TestHeights: P8.3, Leaves at different depths.
func TestHeights(t *testing.T) {
	h := handOf(t, 60)
	low, high := h.leaf(t, "a"), h.leaf(t, "k")
	beneath := h.branch(t, []string{"b"}, high)
	mustFailCheck(t, "the second deeper", h.p, h.branch(t, []string{"", "b"}, low, beneath), api.ErrForm)
	mustFailCheck(t, "the first deeper", h.p, h.branch(t, []string{"", "b"}, h.branch(t, []string{""}, low), high), api.ErrForm)
	mustFailCheck(t, "the second deeper by two", h.p, h.branch(t, []string{"", "b"}, low, h.branch(t, []string{"b"}, beneath)), api.ErrForm)
	mustFailCheck(t, "deeper in the midst", h.p, h.branch(t, []string{"", "b", "l"}, low, beneath, h.leaf(t, "l")), api.ErrForm)
	mustHave(t, "as deep", h.p, h.branch(t, []string{"", "b"}, h.branch(t, []string{""}, low), beneath), plainOf("a", "k"))
}

// plainOf is a list of keys whose values are the keys.
func plainOf(keys ...string) list {
	var out list
	for _, key := range keys {
		out = append(out, tree.Pair{Key: []byte(key), Value: []byte(key)})
	}
	return out
}

// TestBounds: P8.3, keys that lie outside what the kids say, at each edge.
func TestBounds(t *testing.T) {
	h := handOf(t, 200)
	for _, c := range []struct {
		keys   []string
		leaves [][]string
		tree   bool
	}{
		{[]string{"a", "c"}, [][]string{{"a", "b"}, {"c", "d"}}, true},
		{[]string{"", "b\x00"}, [][]string{{"", "b"}, {"b\x00", "c"}}, true},
		{[]string{"b", "c"}, [][]string{{"a", "b"}, {"c", "d"}}, false},
		{[]string{"a", "c"}, [][]string{{"a", "c"}, {"c", "d"}}, false},
		{[]string{"a", "c"}, [][]string{{"a", "b"}, {"bb", "d"}}, false},
		{[]string{"a", "c"}, [][]string{{"a", "d"}, {"e", "f"}}, false},
		{[]string{"a", "c", "e"}, [][]string{{"a"}, {"c", "e"}, {"f"}}, false},
		{[]string{"a", "c", "e"}, [][]string{{"a"}, {"b"}, {"f"}}, false},
		{[]string{"a", "c", "e"}, [][]string{{"a"}, {"c", "cc", "d\xff"}, {"e"}}, true},
		{[]string{"\x00"}, [][]string{{""}}, false},
		{[]string{"\x00"}, [][]string{{"\x00"}}, true},
	} {
		var kids []int
		var all []string
		for _, keys := range c.leaves {
			kids, all = append(kids, h.leaf(t, keys...)), append(all, keys...)
		}
		root := h.branch(t, c.keys, kids...)
		what := fmt.Sprintf("%q over %q", c.keys, c.leaves)
		if c.tree {
			mustHave(t, what, h.p, root, plainOf(all...))
			mustHave(t, what+", one above", h.p, h.branch(t, []string{c.keys[0]}, root), plainOf(all...))
		} else {
			mustFailCheck(t, what, h.p, root, api.ErrForm)
			mustFailCheck(t, what+", one above", h.p, h.branch(t, []string{""}, root), api.ErrForm)
		}
	}
	// A Branch beneath may say less of its first kid, as no key is there; but no key may be there.
	loose := h.branch(t, []string{"", "p"}, h.leaf(t, "m", "n"), h.leaf(t, "q"))
	mustHave(t, "a lower Key beneath", h.p, h.branch(t, []string{"c", "m"}, h.branch(t, []string{"", "e"}, h.leaf(t, "d"), h.leaf(t, "f")), loose), plainOf("d", "f", "m", "n", "q"))
	mustFailCheck(t, "a key below what is said above", h.p, h.branch(t, []string{"", "n"}, h.branch(t, []string{""}, h.leaf(t, "d")), loose), api.ErrForm)
	mustFailCheck(t, "a key from what is said above on", h.p, h.branch(t, []string{"", "q"}, loose, h.branch(t, []string{""}, h.leaf(t, "z"))), api.ErrForm)
	mustFailCheck(t, "a kid from what is said above on", h.p, h.branch(t, []string{"", "o"}, loose, h.branch(t, []string{""}, h.leaf(t, "z"))), api.ErrForm)
	mustFailCheck(t, "a second kid below what is said above", h.p, h.branch(t, []string{"", "pp"}, h.branch(t, []string{""}, h.leaf(t, "d")), loose), api.ErrForm)
}

// TestTwice: P8.3, a page in two places: a Leaf, a Branch, a Piece of two values, a Piece twice in one.
func TestTwice(t *testing.T) {
	h := handOf(t, 60)
	leaf := h.leaf(t, "k")
	mustFailCheck(t, "a Leaf twice", h.p, h.branch(t, []string{"", "z"}, leaf, leaf), api.ErrForm)
	mustFailCheck(t, "a Branch twice", h.p, h.branch(t, []string{"", "z"}, h.branch(t, []string{""}, leaf), h.branch(t, []string{""}, leaf)), api.ErrForm)
	piece := h.pieces(t, 0, 100)
	x := page.Page{Kind: page.Leaf, Items: []page.Item{{Key: []byte("a"), Size: 100, More: piece}, {Key: []byte("b"), Size: 100, More: piece}}}
	mustFailCheck(t, "a Piece of two values", h.p, h.add(t, x), api.ErrForm)
	end := h.pieces(t, 0, 30)
	x.Items = []page.Item{{Key: []byte("a"), Size: 267, More: h.pieces(t, end, 237)}, {Key: []byte("b"), Size: 267, More: h.pieces(t, end, 237)}}
	mustFailCheck(t, "a last Piece of two values", h.p, h.add(t, x), api.ErrForm)
	first := h.add(t, page.Page{Kind: page.Leaf, Items: x.Items[:1]})
	mustFailCheck(t, "a last Piece of two Leaves", h.p, h.branch(t, []string{"", "b"}, first, h.add(t, page.Page{Kind: page.Leaf, Items: x.Items[1:]})), api.ErrForm)
	if ids, e := tree.Pages(h.p, first); e != api.OK || len(ids) != 3 || !slices.IsSorted(ids) || !slices.Contains(ids, end) {
		t.Fatalf("Pages of a Leaf and two Pieces: %v, %d", ids, e)
	}
}

// TestLooseTree: P8.4, of a tree whose Branches say less of their first kids than what is said of themselves, or more than there is: what Put and Delete make is a tree.
func TestLooseTree(t *testing.T) {
	for seed := range 30 {
		r := rand.New(rand.NewSource(int64(seed)))
		w := twinOf(t, 300)
		h := hand{w.d, w.p}
		w.root, w.list = h.loose(t, r, 1+seed%3)
		w.mustTell(t, "by hand")
		for _, id := range w.pages(t) {
			w.fresh[id] = true
		}
		if seed%2 == 0 {
			w.commit(t)
		}
		for range 60 {
			key := fmt.Sprint("key", 1000+r.Intn(len(w.list)+20), "x"[:r.Intn(2)])
			if r.Intn(3) == 0 {
				w.put(t, key, text(1, r.Intn(20)))
			} else {
				w.delete(t, string(w.list[r.Intn(len(w.list))].Key))
			}
			w.mustGet(t, key)
			if len(w.list) == 0 {
				break
			}
		}
	}
}

// loose lays a tree of this height with gaps of all sorts: few things in a page, Keys anywhere between the keys, or empty in front.
func (h hand) loose(t *testing.T, r *rand.Rand, height int) (int, list) {
	t.Helper()
	n, last := 1000, ""
	var all list
	var lay func(height int, from string) int
	lay = func(height int, from string) int {
		x := page.Page{Kind: page.Leaf}
		if height > 0 {
			x.Kind = page.Branch
		}
		for i := range 1 + r.Intn(4) {
			if height == 0 {
				n += 1 + r.Intn(3)
				last = fmt.Sprint("key", n)
				x.Items = append(x.Items, page.Item{Key: []byte(last), Value: []byte("v"), Size: 1})
				all = append(all, tree.Pair{Key: []byte(last), Value: []byte("v")})
				continue
			}
			key := []string{last + "\x00", fmt.Sprint("key", n+1)}[r.Intn(2)]
			if i == 0 {
				key = []string{"", "k", from, key}[r.Intn(4)]
			}
			x.Kids = append(x.Kids, page.Kid{Key: []byte(key), Page: lay(height-1, key)})
		}
		return h.add(t, x)
	}
	return lay(height, ""), all
}

// TestAnyPages: P8.2, P8.3, R1, pages of all sorts that point anywhere: each call ends; Check tells OK of trees alone.
func TestAnyPages(t *testing.T) {
	good := 0
	for seed := range 400 {
		r := rand.New(rand.NewSource(int64(seed)))
		h := handOf(t, 60)
		n := 1 + r.Intn(12)
		for range n {
			h.add(t, anyPage(r, n))
		}
		for root := 3; root < 3+n; root++ {
			l, ok := look(h.p, root)
			ids, e := tree.Pages(h.p, root)
			if ok != (e == api.OK) || !slices.Equal(ids, l.pages) || tree.Check(h.p, root) != e {
				t.Fatalf("seed %d, the root %d: %v, %+v; Pages: %v, %d", seed, root, ok, l, ids, e)
			}
			if ok {
				good++
				mustHave(t, fmt.Sprint("seed ", seed), h.p, root, l.pairs)
			}
			h.mustEnd(t, r, root)
		}
	}
	if good < 100 {
		t.Fatalf("%d trees alone", good)
	}
}

// mustEnd does each call, whose answers beside an error must be nothing.
func (h hand) mustEnd(t *testing.T, r *rand.Rand, root int) {
	t.Helper()
	key := anyKey(r)
	if value, found, e := tree.Get(h.p, root, key); (e != api.OK || !found) && len(value) > 0 || e != api.OK && found {
		t.Fatalf("Get(%q): %q, %v, %d", key, value, found, e)
	}
	if pairs, e := tree.Walk(h.p, root, key, nil, 0); e != api.OK && len(pairs) > 0 {
		t.Fatalf("Walk(%q): %q, %d", key, pairs, e)
	}
	s := h.p.Save()
	if got, e := tree.Put(h.p, root, key, text(1, r.Intn(300))); e != api.OK && got != 0 {
		t.Fatalf("Put(%q): %d, %d", key, got, e)
	}
	h.p.Back(s)
	if got, found, e := tree.Delete(h.p, root, key); e != api.OK && (got != 0 || found) || e == api.OK && !found && got != root {
		t.Fatalf("Delete(%q): %d, %v, %d", key, got, found, e)
	}
	h.p.Back(s)
}

// anyKey is one of few.
func anyKey(r *rand.Rand) []byte { return []byte("abcdefgh")[:r.Intn(2)+1][r.Intn(2):] }

// anyPage is a page whose places are mostly those of n pages from 3 on.
func anyPage(r *rand.Rand, n int) page.Page {
	at := func() int { return 3 + r.Intn(n+r.Intn(20)/19) }
	x := page.Page{Kind: 1 + r.Intn(3)}
	for i := range 1 + r.Intn(3) {
		key := bytes.Repeat([]byte("b"), i)
		if r.Intn(2) == 0 {
			key = []byte{byte('a' + i*3 + r.Intn(3))}
		}
		switch x.Kind {
		case page.Leaf:
			item := page.Item{Key: key, Value: []byte("v"), Size: 1}
			if r.Intn(4) == 0 {
				item = page.Item{Key: key, Size: []int{65, 237, 238, 474}[r.Intn(4)], More: at()}
			}
			x.Items = append(x.Items, item)
		case page.Branch:
			x.Kids = append(x.Kids, page.Kid{Key: key, Page: at()})
		}
	}
	if x.Kind == page.Piece {
		x.Data, x.Next = text(1, []int{65, 237, 1}[r.Intn(3)]), r.Intn(2)*at()
	}
	if !page.Right(x) {
		return anyPage(r, n)
	}
	return x
}

// TestManyPages: P8.2, a tree of nearly all pages that a disk can have isn't too many, in any call.
func TestManyPages(t *testing.T) {
	w := twinOf(t, 1024)
	value := text(1, 4096)
	root, n := 0, 0
	for ; n < 100; n++ {
		s := w.p.Save()
		next, e := tree.Put(w.p, root, []byte(short(n)), value)
		if e == api.ErrNoSpace {
			w.p.Back(s)
			break
		}
		mustBe(t, "Put", e, api.OK)
		root = next
		w.list = append(w.list, tree.Pair{Key: []byte(short(n)), Value: value})
	}
	if n < 50 || n == 100 {
		t.Fatalf("%d values of 18 pages on a disk of 1024", n)
	}
	mustHave(t, "a full disk", w.p, root, w.list)
}
