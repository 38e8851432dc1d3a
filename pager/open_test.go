package pager_test

import (
	"math/rand"
	"slices"
	"testing"

	"terrier/api"
	"terrier/disk"
	"terrier/page"
	"terrier/pager"
)

// TestOpenNone: P7.1, no disk, none that was formatted, a dead one.
func TestOpenNone(t *testing.T) {
	mustNotOpen(t, "nil", nil, api.ErrArg)
	for _, size := range sizes() {
		d := made(t, size)
		mustNotOpen(t, "never formatted", d, api.ErrNone)
		d.Fuse(0)
		mustNotOpen(t, "dead, never formatted", d, api.ErrDead)
		d = formatted(t, size)
		d.Fuse(0)
		mustNotOpen(t, "dead", d, api.ErrDead)
		d.Crash()
		mustOpen(t, d)
	}
	mustNotOpen(t, "anything", junk(t, rand.New(rand.NewSource(1)), 9), api.ErrNone)
}

// TestOpenChooses: P7.1, the newer one of two metas at their places.
func TestOpenChooses(t *testing.T) {
	five := []op{{1, metaBytes(5, 3, 2, 8)}, {2, spareBytes(5, 0, 4)}}
	for _, c := range []struct {
		what  string
		ops   []op
		txn   uint64
		root  int
		spare []int
	}{
		{"alone", nil, 5, 3, []int{4}},
		{"with an older one", []op{{0, metaBytes(4, 7, 6, 8)}}, 5, 3, []int{4}},
		{"with one that is far older", []op{{0, metaBytes(0, 7, 6, 8)}}, 5, 3, []int{4}},
		{"with a newer one", []op{{0, metaBytes(6, 7, 6, 8)}, {6, spareBytes(6, 0, 5)}}, 6, 7, []int{5}},
		{"with a newer one that has no chain", []op{{0, metaBytes(8, 0, 0, 8)}}, 8, 0, nil},
		{"with a newer one at its place", []op{{0, metaBytes(7, 7, 6, 8)}}, 5, 3, []int{4}},
		{"with a newer one that isn't right", []op{{0, metaBytes(6, 8, 6, 8)}}, 5, 3, []int{4}},
		{"with an older one of another size", []op{{0, metaBytes(4, 7, 6, 9)}}, 5, 3, []int{4}},
		{"with anything", []op{{0, spareBytes(9, 0, 3)}}, 5, 3, []int{4}},
	} {
		p := mustOpen(t, laid(t, 8, append(c.ops, five...)))
		mustTell(t, p, c.txn, c.root, c.spare...)
	}
}

// TestOpenMetas: P7.1, no meta at its place, and one of another size.
func TestOpenMetas(t *testing.T) {
	chain := op{2, spareBytes(5, 0, 4)}
	for _, c := range []struct {
		what      string
		zero, one []byte
		want      api.Errno
	}{
		{"at each other's place", metaBytes(5, 0, 2, 8), metaBytes(4, 0, 2, 8), api.ErrNone},
		{"at the other's place", metaBytes(5, 0, 2, 8), make([]byte, 256), api.ErrNone},
		{"no metas", spareBytes(4, 0), spareBytes(5, 0), api.ErrNone},
		{"not right", metaBytes(4, 1, 2, 8), metaBytes(5, 8, 2, 8), api.ErrNone},
		{"a chain at 1", metaBytes(4, 0, 1, 8), metaBytes(5, 0, 8, 8), api.ErrNone},
		{"a smaller size", metaBytes(4, 0, 2, 9), metaBytes(5, 0, 2, 8), api.OK},
		{"a greater size", metaBytes(4, 0, 2, 9), metaBytes(3, 0, 2, 9), api.ErrForm},
		{"a greater size, newer", metaBytes(6, 0, 2, 9), metaBytes(5, 0, 2, 8), api.ErrForm},
		{"the greatest size, newer", metaBytes(6, 0, 2, 1024), metaBytes(5, 0, 2, 8), api.ErrForm},
		{"a size that can't be, newer", metaBytes(6, 0, 2, 7), metaBytes(5, 0, 2, 8), api.OK},
	} {
		d := laid(t, 8, []op{{0, c.zero}, {1, c.one}, chain})
		if c.want == api.OK {
			mustTell(t, mustOpen(t, d), 5, 0, 4)
		} else {
			mustNotOpen(t, c.what, d, c.want)
		}
	}
	mustNotOpen(t, "a smaller size", laid(t, 9, []op{{1, metaBytes(5, 0, 2, 8)}, chain}), api.ErrForm)
	mustNotOpen(t, "a smaller size, and no chain", laid(t, 9, []op{{1, metaBytes(5, 0, 0, 8)}}), api.ErrForm)
}

// TestOpenSpoilt: P7.1, behind each bit that is turned in one meta the other one counts, behind one in each there is none.
func TestOpenSpoilt(t *testing.T) {
	d, p := opened(t, 8)
	mustAdd(t, p, leaf("x"), 3)
	p.SetRoot(3)
	mustCommit(t, p)
	zero, _ := d.Read(0)
	one, _ := d.Read(1)
	for at := range 256 {
		bit := byte(1) << (at % 8)
		zero[at] ^= bit
		put(t, d, 0, zero)
		mustTell(t, mustOpen(t, d), 1, 0, 3, 4, 5, 6, 7)
		one[255-at] ^= bit
		put(t, d, 1, one)
		mustNotOpen(t, "both spoilt", d, api.ErrNone)
		zero[at] ^= bit
		put(t, d, 0, zero)
		mustTell(t, mustOpen(t, d), 2, 3, 2, 5, 6, 7)
		one[255-at] ^= bit
		put(t, d, 1, one)
	}
}

// TestOpenChain: P7.1, chains that are right, if they aren't a pager's.
func TestOpenChain(t *testing.T) {
	for _, c := range []struct {
		what  string
		ops   []op
		chain []int
		spare []int
	}{
		{"of nothing", []op{{3, spareBytes(0, 0)}}, []int{3}, nil},
		{"at the ends", []op{{3, spareBytes(0, 0, 2, 9)}}, []int{3}, []int{2, 9}},
		{"to the last page and back", []op{{3, spareBytes(0, 9, 6)}, {9, spareBytes(1, 2, 4)}, {2, spareBytes(99, 0, 8)}}, []int{2, 3, 9}, []int{4, 6, 8}},
		{"backwards", []op{{3, spareBytes(0, 2, 8, 9)}, {2, spareBytes(0, 0, 4, 7)}}, []int{2, 3}, []int{4, 7, 8, 9}},
		{"with nothing ahead", []op{{3, spareBytes(7, 5)}, {5, spareBytes(7, 7)}, {7, spareBytes(7, 0, 6)}}, []int{3, 5, 7}, []int{6}},
		{"of all", []op{{3, spareBytes(0, 0, 2, 4, 5, 6, 7, 8, 9)}}, []int{3}, []int{2, 4, 5, 6, 7, 8, 9}},
		{"and all are chain", []op{{3, spareBytes(0, 2)}, {2, spareBytes(0, 4)}, {4, spareBytes(0, 5)}, {5, spareBytes(0, 6)}, {6, spareBytes(0, 7)}, {7, spareBytes(0, 8)}, {8, spareBytes(0, 9)}, {9, spareBytes(0, 0)}}, upTo(2, 10), nil},
	} {
		d := laid(t, 10, append(c.ops, op{0, metaBytes(4, 0, 3, 10)}))
		p := mustOpen(t, d)
		mustTell(t, p, 4, 0, c.spare...)
		mustNotDrop(t, p, api.ErrExist, c.chain...)
	}
	p := mustOpen(t, laid(t, 10, []op{{0, metaBytes(4, 6, 0, 10)}}))
	mustTell(t, p, 4, 6)
	p = mustOpen(t, laid(t, 10, []op{{0, metaBytes(4, 6, 3, 10)}, {3, spareBytes(4, 0, 6)}}))
	mustTell(t, p, 4, 6, 6) // nobody asks whether the root is spare
}

// TestOpenWrongChain: P7.1, each way in which a chain can't be gone through, and which of two errors is told.
func TestOpenWrongChain(t *testing.T) {
	turned := spareBytes(4, 0, 5)
	turned[200] ^= 4
	noPage := sealed([]byte{7})
	leafBytes, branchBytes := bytesOf(leaf("x")), bytesOf(page.Page{Kind: page.Branch, Kids: []page.Kid{{Page: 3}}})
	pieceBytes := bytesOf(page.Page{Kind: page.Piece, Next: 4, Data: []byte("x")})
	for _, c := range []struct {
		what string
		ops  []op
		want api.Errno
	}{
		{"the page 1", []op{{3, spareBytes(4, 1, 5)}}, api.ErrForm},
		{"the page behind the last", []op{{3, spareBytes(4, 10, 5)}}, api.ErrForm},
		{"a page far behind", []op{{3, spareBytes(4, 1023, 5)}}, api.ErrForm},
		{"one of no disk", []op{{3, spareBytes(4, 1024, 5)}}, api.ErrForm},
		{"itself", []op{{3, spareBytes(4, 3, 5)}}, api.ErrForm},
		{"the first again", []op{{3, spareBytes(4, 4, 5)}, {4, spareBytes(4, 3, 6)}}, api.ErrForm},
		{"the second again", []op{{3, spareBytes(4, 4)}, {4, spareBytes(4, 5)}, {5, spareBytes(4, 4)}}, api.ErrForm},
		{"noughts", nil, api.ErrSum},
		{"noughts as the second", []op{{3, spareBytes(4, 4, 5)}}, api.ErrSum},
		{"a bit turned", []op{{3, turned}}, api.ErrSum},
		{"a bit turned in the second", []op{{3, spareBytes(4, 4, 5)}, {4, turned}}, api.ErrSum},
		{"no page", []op{{3, noPage}}, api.ErrForm},
		{"a meta", []op{{3, metaBytes(4, 0, 3, 10)}}, api.ErrForm},
		{"a leaf", []op{{3, leafBytes}}, api.ErrForm},
		{"a branch", []op{{3, branchBytes}}, api.ErrForm},
		{"a piece", []op{{3, pieceBytes}, {4, turned}}, api.ErrForm},
		{"a leaf as the second", []op{{3, spareBytes(4, 4, 5)}, {4, leafBytes}}, api.ErrForm},
		{"twice in a page", []op{{3, spareBytes(4, 0, 5, 5)}}, api.ErrForm},
		{"falling in a page", []op{{3, spareBytes(4, 0, 6, 5)}}, api.ErrForm},
		{"twice in two pages", []op{{3, spareBytes(4, 4, 5)}, {4, spareBytes(4, 0, 5)}}, api.ErrForm},
		{"twice in two pages, not the last ones", []op{{3, spareBytes(4, 4, 5, 7)}, {4, spareBytes(4, 2, 6)}, {2, spareBytes(4, 0, 5, 8)}}, api.ErrForm},
		{"its own", []op{{3, spareBytes(4, 0, 3)}}, api.ErrForm},
		{"the second's own, in the first", []op{{3, spareBytes(4, 4, 4)}, {4, spareBytes(4, 0)}}, api.ErrForm},
		{"the first's own, in the second", []op{{3, spareBytes(4, 4)}, {4, spareBytes(4, 0, 3)}}, api.ErrForm},
		{"the number 0", []op{{3, spareBytes(4, 0, 0)}}, api.ErrForm},
		{"the number 1", []op{{3, spareBytes(4, 0, 1)}}, api.ErrForm},
		{"the number 1 ahead of others", []op{{3, spareBytes(4, 0, 1, 5)}}, api.ErrForm},
		{"the number of pages", []op{{3, spareBytes(4, 0, 5, 10)}}, api.ErrForm},
		{"a number far above", []op{{3, spareBytes(4, 0, 1023)}}, api.ErrForm},
		{"a number of no disk", []op{{3, spareBytes(4, 0, 1<<31)}}, api.ErrForm},
		{"a number twice, then a bit turned", []op{{3, spareBytes(4, 4, 4)}, {4, turned}}, api.ErrSum},
		{"the number 1, then a bit turned", []op{{3, spareBytes(4, 4, 1)}, {4, turned}}, api.ErrSum},
		{"a number twice in a page, then a bit turned", []op{{3, spareBytes(4, 4, 5, 5)}, {4, turned}}, api.ErrForm},
		{"a bit turned in what the chain doesn't have", []op{{3, spareBytes(4, 0, 5)}, {4, turned}, {5, turned}}, api.OK},
	} {
		d := laid(t, 10, append(c.ops, op{0, metaBytes(4, 0, 3, 10)}, op{1, metaBytes(3, 0, 0, 10)}))
		if c.want == api.OK {
			mustTell(t, mustOpen(t, d), 4, 0, 5)
		} else {
			mustNotOpen(t, c.what, d, c.want)
		}
	}
	d := laid(t, 10, []op{{0, metaBytes(4, 0, 3, 11)}, {3, turned}})
	mustNotOpen(t, "another size, and a bit turned", d, api.ErrForm)
}

// TestOpenLast: P7.1, the last page that there is may be listed and be the chain's.
func TestOpenLast(t *testing.T) {
	for _, size := range sizes() {
		p := mustOpen(t, withChain(t, size, []int{3}, []int{2, size - 1}))
		mustTell(t, p, 4, 0, 2, size-1)
		p = mustOpen(t, withChain(t, size, []int{size - 1}, []int{2, size - 2}))
		mustTell(t, p, 4, 0, 2, size-2)
		mustNotDrop(t, p, api.ErrExist, size-1)
		if size < 1024 {
			mustNotOpen(t, "one listed too much", withChain(t, size, []int{3}, []int{2, size}), api.ErrForm)
		}
	}
}

// TestOpenLong: P7.1, chains of more pages than they need be, up to all that there are.
func TestOpenLong(t *testing.T) {
	for _, size := range []int{8, 100, 1024} {
		r := rand.New(rand.NewSource(int64(size)))
		var chain []int
		for _, i := range r.Perm(size - 2) {
			chain = append(chain, i+2)
		}
		d := withChain(t, size, chain, nil)
		p := mustOpen(t, d)
		mustTell(t, p, 4, 0)
		mustNotDrop(t, p, api.ErrExist, chain...)
		last := chain[size-3]
		put(t, d, last, spareBytes(4, chain[r.Intn(size-2)]))
		mustNotOpen(t, "round again", d, api.ErrForm)
		put(t, d, last, spareBytes(4, 0, chain[r.Intn(size-2)]))
		mustNotOpen(t, "listed, and of the chain", d, api.ErrForm)
	}
}

// TestOpenChangesNothing: R3, Open writes nothing, whatever it answers.
func TestOpenChangesNothing(t *testing.T) {
	for _, d := range []*disk.Disk{made(t, 8), formatted(t, 8), busy(t, 100), cached(t, 9)} {
		c := d.Copy()
		done, in := d.Done(), d.Cached()
		pager.Open(d)
		pager.Open(d)
		if d.Done() != done || !slices.Equal(d.Cached(), in) {
			t.Fatal("Open writes or syncs")
		}
		for id := range d.Size() {
			a, _ := d.Read(id)
			b, _ := c.Read(id)
			if !slices.Equal(a, b) {
				t.Fatalf("Open has changed the page %d", id)
			}
		}
	}
}

// TestOpenAny: P7.1, pages of all sorts at the metas' places and in the chain, beside the chapter's words.
func TestOpenAny(t *testing.T) {
	r := rand.New(rand.NewSource(9))
	number := func() int {
		if r.Intn(9) == 0 {
			return []int{0, 1, 7, 8, 9, 1023, 1024}[r.Intn(7)]
		}
		return 2 + r.Intn(6)
	}
	told := map[api.Errno]int{}
	for range 25000 {
		size := 8
		if r.Intn(12) == 0 {
			size = 9
		}
		ops := []op{{0, metaBytes(uint64(2*r.Intn(4)+r.Intn(8)/7), 0, number()*r.Intn(4)/3, size)}, {1, metaBytes(uint64(2*r.Intn(4)+1-r.Intn(8)/7), 0, number(), size)}}
		for id := 2; id < 8; id++ {
			var ids []int
			for range r.Intn(3) * r.Intn(2) {
				ids = append(ids, number())
			}
			if r.Intn(8) > 0 {
				slices.Sort(ids)
			}
			b := spareBytes(uint64(r.Intn(9)), number()*r.Intn(2), ids...)
			switch r.Intn(20) {
			case 0:
				b = bytesOf(leaf("x"))
			case 1:
				b[r.Intn(256)] ^= 1
			}
			ops = append(ops, op{id, b})
		}
		d := laid(t, 8, ops)
		want, f := openPlain(storeOf(t, d))
		told[f]++
		if f != api.OK {
			mustNotOpen(t, "any", d, f)
			continue
		}
		p := mustOpen(t, d)
		mustTell(t, p, want.txn, want.root, want.those(spare)...)
		for id := range 9 {
			mustBe(t, "Drop", p.Drop(id), want.drop(id))
		}
	}
	for _, e := range []api.Errno{api.OK, api.ErrForm, api.ErrSum, api.ErrNone} {
		if told[e] < 150 {
			t.Errorf("of 25000 %d were %d: too few to tell", told[e], e)
		}
	}
}
