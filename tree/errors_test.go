package tree_test

import (
	"fmt"
	"math"
	"slices"
	"testing"

	"terrier/api"
	"terrier/disk"
	"terrier/page"
	"terrier/pager"
	"terrier/tree"
)

// deadPager is one whose commit had a disk's error, of a disk that answers again.
func deadPager(t *testing.T) (*disk.Disk, *pager.Pager) {
	t.Helper()
	d, p := opened(t, 60)
	d.Fuse(0)
	mustBe(t, "Commit", p.Commit(), api.ErrDead)
	d.Crash()
	return d, p
}

// mustFail asks that every call tells this error, and nothing beside it.
func mustFail(t *testing.T, what string, p *pager.Pager, root int, key string, want api.Errno) {
	t.Helper()
	mustFailChange(t, what, p, root, key, want)
	mustFailRead(t, what, p, root, key, want)
	mustFailCheck(t, what, p, root, want)
}

// mustFailChange: Put and Delete. What they did is undone.
func mustFailChange(t *testing.T, what string, p *pager.Pager, root int, key string, want api.Errno) {
	t.Helper()
	s := p.Save()
	for _, value := range [][]byte{nil, text(0, 65), text(0, 4096)} {
		if got, e := tree.Put(p, root, []byte(key), value); got != 0 || e != want {
			t.Fatalf("%s: Put(%q): %d, %d; want %d", what, key, got, e, want)
		}
		p.Back(s)
	}
	if got, found, e := tree.Delete(p, root, []byte(key)); got != 0 || found || e != want {
		t.Fatalf("%s: Delete(%q): %d, %v, %d; want %d", what, key, got, found, e, want)
	}
	p.Back(s)
}

// mustFailRead: Get and Walk.
func mustFailRead(t *testing.T, what string, p *pager.Pager, root int, key string, want api.Errno) {
	t.Helper()
	if value, found, e := tree.Get(p, root, []byte(key)); len(value) > 0 || found || e != want {
		t.Fatalf("%s: Get(%q): %q, %v, %d; want %d", what, key, value, found, e, want)
	}
	for _, limit := range []int{0, 1, 1 << 20} {
		if pairs, e := tree.Walk(p, root, []byte(key), nil, limit); len(pairs) > 0 || e != want {
			t.Fatalf("%s: Walk(%q, %d): %q, %d; want %d", what, key, limit, pairs, e, want)
		}
	}
}

// mustFailCheck: Check and Pages.
func mustFailCheck(t *testing.T, what string, p *pager.Pager, root int, want api.Errno) {
	t.Helper()
	mustBe(t, what+": Check", tree.Check(p, root), want)
	if ids, e := tree.Pages(p, root); len(ids) > 0 || e != want {
		t.Fatalf("%s: Pages: %v, %d; want %d", what, ids, e, want)
	}
}

// TestNoPager: P8.2, R1, of a nil pager, of a dead one, and of a dead disk. The empty tree needs none.
func TestNoPager(t *testing.T) {
	_, dead := deadPager(t)
	mustFail(t, "nil", nil, 2, "k", api.ErrArg)
	mustFail(t, "dead", dead, 2, "k", api.ErrDead)
	d, p := opened(t, 60)
	root, e := tree.Put(p, 0, []byte("k"), text(0, 300))
	mustBe(t, "Put", e, api.OK)
	p.SetRoot(root)
	mustBe(t, "Commit", p.Commit(), api.OK)
	d.Fuse(0)
	mustFail(t, "a dead disk", p, root, "k", api.ErrDead)
	for p, want := range map[*pager.Pager]api.Errno{nil: api.ErrArg, dead: api.ErrDead} {
		if got, e := tree.Put(p, 0, []byte("k"), []byte("v")); got != 0 || e != want {
			t.Fatalf("Put into nothing: %d, %d; want %d", got, e, want)
		}
		if got, found, e := tree.Delete(p, 0, []byte("k")); got != 0 || found || e != api.OK {
			t.Fatalf("Delete out of nothing: %d, %v, %d", got, found, e)
		}
		if value, found, e := tree.Get(p, 0, []byte("k")); len(value) > 0 || found || e != api.OK {
			t.Fatalf("Get out of nothing: %q, %v, %d", value, found, e)
		}
		mustWalk(t, p, 0, nil, nil, 0, nil)
		mustBe(t, "Check", tree.Check(p, 0), api.OK)
	}
}

// TestNoRoot: P8.2, roots out of bounds, and of pages that can't be read.
func TestNoRoot(t *testing.T) {
	d, p := opened(t, 60)
	for _, root := range []int{math.MinInt, -1 << 32, -2, -1, 1, 60, 61, 1024, 1 << 32, 1<<32 + 3, math.MaxInt} {
		mustFail(t, fmt.Sprint("the root ", root), p, root, "k", api.ErrRange)
	}
	mustFail(t, "noughts", p, 9, "k", api.ErrSum)
	short := sealedWrong(t)
	mustBe(t, "Write", d.Write(9, short), api.OK)
	mustFail(t, "no page", p, 9, "k", api.ErrForm)
	mustFail(t, "the chain's page", p, 2, "k", api.ErrForm)
}

// TestDropped: P8.2, a change of an elder root, whose pages are held, or of pages that are spare: the pager's error.
func TestDropped(t *testing.T) {
	for _, length := range []int{10, 300} {
		w := twinOf(t, 200)
		for i := range 30 {
			w.put(t, long(i), text(i, length))
		}
		w.commit(t)
		elder, had := w.root, w.list
		w.put(t, long(12), text(1, length))
		mustFailChange(t, "an elder root", w.p, elder, long(12), api.ErrExist)
		s := w.p.Save()
		if got, e := tree.Put(w.p, elder, []byte(long(12) + "x")[1:], nil); got != 0 || e != api.ErrExist {
			t.Fatalf("Put of a new key into an elder root: %d, %d", got, e)
		}
		w.p.Back(s)
		mustHave(t, "the elder root", w.p, elder, had)
		w.mustTell(t, "behind all")
	}
	h, root, leaves := threeLeaves(t)
	for at, id := range append(leaves, root) {
		s := h.p.Save()
		mustBe(t, "Drop", h.p.Drop(id), api.OK)
		for i, key := range []string{"a", "c", "e"} {
			if id == root || i == at {
				mustFailChange(t, fmt.Sprint("the page ", id, " is held"), h.p, root, key, api.ErrExist)
				continue
			}
			_, e := tree.Put(h.p, root, []byte(key), nil)
			mustBe(t, "Put beside a page that is held", e, api.OK)
			h.p.Back(s)
			mustBe(t, "Drop", h.p.Drop(id), api.OK)
		}
		h.p.Back(s)
	}
}

// threeLeaves is a committed tree of a Branch and three Leaves of little: a b, c d, e f.
func threeLeaves(t *testing.T) (h hand, root int, leaves []int) {
	t.Helper()
	h = handOf(t, 60)
	leaves = []int{h.leaf(t, "a", "b"), h.leaf(t, "c", "d"), h.leaf(t, "e", "f")}
	root = h.branch(t, []string{"a", "c", "e"}, leaves...)
	h.p.SetRoot(root)
	mustBe(t, "Commit", h.p.Commit(), api.OK)
	return h, root, leaves
}

// TestNeighbours: P8.2, of neighbours that are to be joined, but can't be read, are held or aren't of the same kind, a Delete tells the error; a Put needs none of them.
func TestNeighbours(t *testing.T) {
	for what, spoils := range map[string]struct {
		want  api.Errno
		spoil func(h hand, id int)
	}{
		"broken":         {api.ErrSum, func(h hand, id int) { mustBe(t, "Write", h.d.Write(id, make([]byte, 256)), api.OK) }},
		"a meta":         {api.ErrForm, func(h hand, id int) { mustBe(t, "Write", h.d.Write(id, sealedWrong(t)), api.OK) }},
		"held":           {api.ErrExist, func(h hand, id int) { mustBe(t, "Drop", h.p.Drop(id), api.OK) }},
		"a Branch":       {api.ErrForm, func(h hand, id int) { h.write(t, id, branchOf("a", 3)) }},
		"a small Branch": {api.ErrForm, func(h hand, id int) { h.write(t, id, branchOf("", 9)) }},
		"a Piece":        {api.ErrForm, func(h hand, id int) { h.write(t, id, page.Page{Kind: page.Piece, Data: []byte("x")}) }},
	} {
		for _, c := range []struct {
			key   string
			spoil int
		}{{"a", 1}, {"b", 1}, {"c", 0}, {"d", 0}, {"e", 1}, {"f", 1}} {
			h, root, leaves := threeLeaves(t)
			spoils.spoil(h, leaves[c.spoil])
			s := h.p.Save()
			if got, found, e := tree.Delete(h.p, root, []byte(c.key)); got != 0 || found || e != spoils.want {
				t.Fatalf("Delete(%s) beside a page that is %s: %d, %v, %d; want %d", c.key, what, got, found, e, spoils.want)
			}
			h.p.Back(s)
			got, e := tree.Put(h.p, root, []byte(c.key), []byte("new"))
			mustBe(t, "Put beside a page that is "+what, e, api.OK)
			if value, found, e := tree.Get(h.p, got, []byte(c.key)); string(value) != "new" || !found || e != api.OK {
				t.Fatalf("Get(%s) beside a page that is %s: %q, %v, %d", c.key, what, value, found, e)
			}
		}
	}
}

// branchOf is a Branch of one kid.
func branchOf(key string, id int) page.Page {
	return page.Page{Kind: page.Branch, Kids: []page.Kid{{Key: []byte(key), Page: id}}}
}

// write writes a page onto the disk.
func (h hand) write(t *testing.T, id int, x page.Page) {
	t.Helper()
	b, e := page.Encode(x)
	mustBe(t, "Encode", e, api.OK)
	mustBe(t, "Write", h.d.Write(id, b), api.OK)
}

// sealedWrong is a page's place with bytes that are no page's, but have their checksum.
func sealedWrong(t *testing.T) []byte {
	t.Helper()
	d := disk.New(8)
	mustBe(t, "Format", pager.Format(d), api.OK)
	b, e := d.Read(0) // a meta's
	mustBe(t, "Read", e, api.OK)
	return b
}

// hand is a tree made by hand: pages with their places in a pager's transaction.
type hand struct {
	d *disk.Disk
	p *pager.Pager
}

// handOf is one without a page.
func handOf(t *testing.T, size int) hand {
	t.Helper()
	d, p := opened(t, size)
	return hand{d, p}
}

// next is the place of the next page.
func (h hand) next() int { return h.p.Spare()[0] }

// add adds a page.
func (h hand) add(t *testing.T, x page.Page) int {
	t.Helper()
	id, e := h.p.Add(x)
	mustBe(t, fmt.Sprintf("Add(%+v)", x), e, api.OK)
	return id
}

// leaf adds a Leaf with these keys, whose values are the keys.
func (h hand) leaf(t *testing.T, keys ...string) int {
	t.Helper()
	x := page.Page{Kind: page.Leaf}
	for _, key := range keys {
		x.Items = append(x.Items, page.Item{Key: []byte(key), Value: []byte(key), Size: len(key)})
	}
	return h.add(t, x)
}

// branch adds a Branch with these kids, whose Keys stand one behind the other, parted by spaces.
func (h hand) branch(t *testing.T, keys []string, kids ...int) int {
	t.Helper()
	x := page.Page{Kind: page.Branch}
	for i, key := range keys {
		x.Kids = append(x.Kids, page.Kid{Key: []byte(key), Page: kids[i]})
	}
	return h.add(t, x)
}

// pieces adds Pieces of so many bytes each, the last one's Next this one, and answers the first.
func (h hand) pieces(t *testing.T, last int, lengths ...int) int {
	t.Helper()
	for _, length := range slices.Backward(lengths) {
		last = h.add(t, page.Page{Kind: page.Piece, Next: last, Data: text(length, length)})
	}
	return last
}

// item adds a Leaf with the key k and a value of this Size, that begins there.
func (h hand) item(t *testing.T, size, more int) int {
	t.Helper()
	return h.add(t, page.Page{Kind: page.Leaf, Items: []page.Item{{Key: []byte("k"), Size: size, More: more}}})
}

// TestWrongKind: P8.2, P8.3, a root, a kid, and a Piece that is of another kind.
func TestWrongKind(t *testing.T) {
	h := handOf(t, 60)
	piece, spare, good, low := h.pieces(t, 0, 237), h.add(t, page.Page{Kind: page.Spare}), h.leaf(t, "z"), h.leaf(t, "a")
	for what, x := range map[string]int{"a Piece": piece, "a Spare": spare} {
		mustFail(t, what+" as the root", h.p, x, "k", api.ErrForm)
		mustFail(t, what+" as a kid", h.p, h.branch(t, []string{""}, x), "k", api.ErrForm)
		mustFail(t, what+" as the first kid", h.p, h.branch(t, []string{"", "z"}, x, good), "k", api.ErrForm)
		mustFail(t, what+" as the last kid", h.p, h.branch(t, []string{"", "b"}, low, x), "k", api.ErrForm)
	}
	branch := h.branch(t, []string{""}, good)
	for what, x := range map[string]int{"a Spare": spare, "a Leaf": good, "a Branch": branch} {
		mustFail(t, what+" as the Piece", h.p, h.item(t, 237, x), "k", api.ErrForm)
		mustFail(t, what+" as the last Piece", h.p, h.item(t, 238, h.pieces(t, x, 237)), "k", api.ErrForm)
	}
}

// TestWrongPlace: P8.2, P8.3, kids and Pieces whose pages are out of bounds, or can't be read.
func TestWrongPlace(t *testing.T) {
	h := handOf(t, 60)
	low := h.leaf(t, "a")
	for at, want := range map[int]api.Errno{1: api.ErrRange, 60: api.ErrRange, 1023: api.ErrRange, 2: api.ErrForm, 59: api.ErrSum} {
		what := fmt.Sprint("the page ", at)
		mustFail(t, what+" as a kid", h.p, h.branch(t, []string{""}, at), "k", want)
		mustFail(t, what+" as the last kid", h.p, h.branch(t, []string{"", "b"}, low, at), "k", want)
		mustFail(t, what+" as the Piece", h.p, h.item(t, 65, at), "k", want)
		mustFail(t, what+" as the last Piece", h.p, h.item(t, 238, h.pieces(t, at, 237)), "k", want)
	}
}

// TestWrongSize: P8.2, P8.3, Pieces that are too few, too many, or have too little or too much.
func TestWrongSize(t *testing.T) {
	h := handOf(t, 500)
	for _, c := range []struct {
		size    int
		lengths []int
	}{
		{65, []int{64}}, {65, []int{66}}, {65, []int{1}}, {65, []int{65, 1}}, {65, []int{237}}, {237, []int{236}}, {237, []int{237, 1}},
		{238, []int{237}}, {238, []int{237, 2}}, {238, []int{237, 237}}, {474, []int{237, 236}}, {474, []int{237, 237, 1}},
		{474, []int{237}}, {475, []int{237, 237}}, {4096, []int{237, 237}}, {66, []int{65, 1, 1}},
	} {
		mustFail(t, fmt.Sprintf("a Size of %d, Pieces of %v", c.size, c.lengths), h.p, h.item(t, c.size, h.pieces(t, 0, c.lengths...)), "k", api.ErrForm)
	}
}

// TestShortPieces: P8.3, Pieces that have their value's Size, but aren't as full as they must be, are no tree's; the other calls tell the value that they find, or an error.
func TestShortPieces(t *testing.T) {
	h := handOf(t, 300)
	for _, lengths := range [][]int{{236, 1}, {1, 64}, {64, 1}, {237, 236, 237}, {236, 237}, {237, 1, 1}, {1, 237}, {100, 237, 237}} {
		size := 0
		for _, n := range lengths {
			size += n
		}
		root := h.item(t, size, h.pieces(t, 0, lengths...))
		mustFailCheck(t, fmt.Sprint("Pieces of ", lengths), h.p, root, api.ErrForm)
		if value, found, e := tree.Get(h.p, root, []byte("k")); e == api.OK && (!found || len(value) != size) || e != api.OK && found {
			t.Fatalf("Pieces of %v: Get: %d bytes, %v, %d", lengths, len(value), found, e)
		}
	}
}

// TestRound: P8.2, P8.3, pages that come round again: each call ends.
func TestRound(t *testing.T) {
	h := handOf(t, 200)
	self := h.branch(t, []string{""}, h.next())
	mustFail(t, "a Branch beneath itself", h.p, self, "k", api.ErrForm)
	two := h.branch(t, []string{"", "b", "c"}, h.next(), h.next(), h.next())
	mustFail(t, "a Branch beneath itself, thrice", h.p, two, "bb", api.ErrForm)
	at := h.next()
	low := h.branch(t, []string{"", "b"}, h.leaf(t, "a"), at+2)
	_ = low
	top := h.branch(t, []string{"", "m"}, low, at)
	for range 3 {
		mustFail(t, "a Branch beneath a Branch above", h.p, top, "k", api.ErrForm)
	}
	round := h.add(t, page.Page{Kind: page.Piece, Next: h.next(), Data: text(1, 237)})
	for _, size := range []int{65, 237, 238, 474, 475, 4096} {
		mustFail(t, fmt.Sprintf("a Piece behind itself, of %d bytes", size), h.p, h.item(t, size, round), "k", api.ErrForm)
	}
	tiny := h.add(t, page.Page{Kind: page.Piece, Next: h.next(), Data: text(1, 1)})
	mustFail(t, "a Piece of one byte behind itself", h.p, h.item(t, 4096, tiny), "k", api.ErrForm)
	one := h.next()
	ring := h.pieces(t, one+2, 237, 237, 237)
	mustFail(t, "a ring of Pieces", h.p, h.item(t, 4096, ring), "k", api.ErrForm)
	mustFail(t, "a ring of Pieces, of just some rounds", h.p, h.item(t, 237*8, ring), "k", api.ErrForm)
}
