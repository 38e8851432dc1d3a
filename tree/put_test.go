package tree_test

import (
	"bytes"
	"fmt"
	"slices"
	"testing"

	"terrier/api"
	"terrier/page"
	"terrier/tree"
)

// TestExample: the chapter's example.
func TestExample(t *testing.T) {
	_, p := opened(t, 20)
	root, e := tree.Put(p, 0, []byte("a"), []byte("x"))
	mustBe(t, "Put(a x)", e, api.OK)
	root, e = tree.Put(p, root, []byte("b"), []byte("y"))
	mustBe(t, "Put(b y)", e, api.OK)
	got, e := tree.Walk(p, root, nil, nil, 0)
	if e != api.OK || len(got) != 2 || string(got[0].Key)+string(got[0].Value)+string(got[1].Key)+string(got[1].Value) != "axby" {
		t.Fatalf("Walk: %q, %d", got, e)
	}
	for i, key := range []string{"a", "b"} {
		var found bool
		root, found, e = tree.Delete(p, root, []byte(key))
		if !found || e != api.OK || (root == 0) != (i == 1) {
			t.Fatalf("Delete(%s): %d, %v, %d", key, root, found, e)
		}
	}
	if got := p.Spare(); len(got) != 17 {
		t.Fatalf("of 18 pages %v are spare behind it; one is the chain's", got)
	}
}

// TestEmpty: P8.1 to P8.3, the root 0 has nothing.
func TestEmpty(t *testing.T) {
	_, p := opened(t, 20)
	for _, key := range [][]byte{nil, {}, []byte("k"), make([]byte, 32), make([]byte, 33), make([]byte, 5000)} {
		if value, found, e := tree.Get(p, 0, key); len(value) > 0 || found || e != api.OK {
			t.Fatalf("Get(%q): %q, %v, %d", key, value, found, e)
		}
		if root, found, e := tree.Delete(p, 0, key); root != 0 || found || e != api.OK {
			t.Fatalf("Delete(%q): %d, %v, %d", key, root, found, e)
		}
		mustWalk(t, p, 0, key, nil, 0, nil)
		mustWalk(t, p, 0, nil, key, 3, nil)
	}
	mustHave(t, "nothing", p, 0, nil)
	if len(p.Spare()) != 17 {
		t.Fatalf("spare are %v", p.Spare())
	}
}

// TestLengths: P8.1, P8.4, keys and values of each length at which something changes.
func TestLengths(t *testing.T) {
	for _, n := range []int{0, 1, 2, 31, 32} {
		w := twinOf(t, 300)
		key := string(text(5, n))
		for _, length := range lengths() {
			w.put(t, key, text(length, length))
			w.mustGet(t, key)
			pieces := 0
			if length > 64 {
				pieces = (length + 236) / 237
			}
			if got := len(w.pages(t)); got != 1+pieces {
				t.Fatalf("one value of %d bytes: %d pages", length, got)
			}
		}
		w.delete(t, key)
		if w.root != 0 {
			t.Fatalf("all keys deleted: the root %d", w.root)
		}
		w.commit(t)
	}
}

// TestEachLength: P8.1, a value of each length there may be.
func TestEachLength(t *testing.T) {
	_, p := opened(t, 60)
	root := 0
	for length := range 4097 {
		value := text(length, length)
		var e api.Errno
		root, e = tree.Put(p, root, []byte("key"), value)
		mustBe(t, fmt.Sprintf("Put of %d bytes", length), e, api.OK)
		got, found, e := tree.Get(p, root, []byte("key"))
		if !found || e != api.OK || !bytes.Equal(got, value) {
			t.Fatalf("Get of %d bytes: %d bytes, %v, %d", length, len(got), found, e)
		}
	}
}

// TestPieces: the chapter's word of a value, in numbers: where it stands, and in what pages.
func TestPieces(t *testing.T) {
	for length, want := range map[int][]int{64: nil, 65: {65}, 237: {237}, 238: {237, 1}, 474: {237, 237}, 475: {237, 237, 1}} {
		_, p := opened(t, 60)
		value := text(1, length)
		root, e := tree.Put(p, 0, []byte("key"), value)
		mustBe(t, "Put", e, api.OK)
		x, e := p.Read(root)
		if e != api.OK || x.Kind != page.Leaf || len(x.Items) != 1 || x.Items[0].Size != length || (x.Items[0].More == 0) != (want == nil) {
			t.Fatalf("%d bytes stand as %+v, %d", length, x, e)
		}
		at := x.Items[0].More
		for i, n := range want {
			piece, e := p.Read(at)
			if e != api.OK || piece.Kind != page.Piece || !bytes.Equal(piece.Data, value[237*i:237*i+n]) {
				t.Fatalf("of %d bytes the Piece %d is %+v, %d", length, i, piece, e)
			}
			at = piece.Next
		}
		if at != 0 {
			t.Fatalf("behind all Pieces of %d bytes: %d", length, at)
		}
	}
}

// TestLong: P8.1, P8.2, a key or a value that is too long is told first, and nothing has changed.
func TestLong(t *testing.T) {
	w := twinOf(t, 60)
	w.put(t, "k", text(0, 300))
	w.put(t, long(1), nil)
	key, value := make([]byte, 32), make([]byte, 4096)
	more := [][]byte{make([]byte, 33), make([]byte, 300), make([]byte, 1<<16+1)}
	blobs := [][]byte{make([]byte, 4097), make([]byte, 1<<16), make([]byte, 1<<16+300)}
	_, dead := deadPager(t)
	spare := w.p.Spare()
	for i := range more {
		for _, pair := range []tree.Pair{{Key: more[i], Value: nil}, {Key: key, Value: blobs[i]}, {Key: more[i], Value: blobs[i]}, {Key: more[i], Value: value}} {
			for _, root := range []int{w.root, 0, 1, -1, 60, 2, 999} {
				if got, e := tree.Put(w.p, root, pair.Key, pair.Value); got != 0 || e != api.ErrLong {
					t.Fatalf("Put of %d and %d bytes into %d: %d, %d", len(pair.Key), len(pair.Value), root, got, e)
				}
				if got, e := tree.Put(nil, root, pair.Key, pair.Value); got != 0 || e != api.ErrLong {
					t.Fatalf("Put of %d and %d bytes into %d of a nil pager: %d, %d", len(pair.Key), len(pair.Value), root, got, e)
				}
				if got, e := tree.Put(dead, root, pair.Key, pair.Value); got != 0 || e != api.ErrLong {
					t.Fatalf("Put of %d and %d bytes into %d of a dead pager: %d, %d", len(pair.Key), len(pair.Value), root, got, e)
				}
			}
		}
		// Such keys may be asked for, though none is there.
		w.mustGet(t, string(more[i]))
		w.delete(t, string(more[i]))
		w.mustGet(t, string(append([]byte(long(1)), more[i]...)))
		w.delete(t, string(append([]byte(long(1)), more[i]...)))
	}
	if got := w.p.Spare(); len(got) != len(spare) {
		t.Fatalf("spare are %v; %v ahead", got, spare)
	}
	w.put(t, string(key), value)
}

// TestPutAgain: P8.1, P8.4, a key that is there gets another value: of each of these lengths behind each.
func TestPutAgain(t *testing.T) {
	lengths := []int{0, 1, 64, 65, 237, 238, 475, 4096}
	for _, commits := range []bool{false, true} {
		w := twinOf(t, 200)
		for i := range 20 {
			w.put(t, fmt.Sprint("key", i), text(i, 30))
		}
		for _, was := range lengths {
			for _, is := range lengths {
				for _, key := range []string{"key0", "key5", "key9"} {
					w.put(t, key, text(1, was))
					if commits {
						w.commit(t)
					}
					w.put(t, key, text(2, is))
					w.mustGet(t, key)
					w.put(t, key, text(2, is)) // the same
				}
			}
		}
	}
}

// TestPutMany: P8.1, P8.4, trees of one Leaf up to several Branches one above another, with keys of the least and the greatest length, in order, backwards and mixed; and each key deleted, in order, backwards and mixed.
func TestPutMany(t *testing.T) {
	for _, kind := range []struct {
		name string
		key  func(int) string
		size int
		keys int
		high int
	}{
		{"short keys", short, 0, 171, 2}, {"long keys", long, 0, 120, 3}, {"long keys and values", long, 64, 85, 3},
		{"values", short, 40, 120, 2}, {"Pieces", short, 240, 30, 2},
	} {
		for way := range 4 {
			w := twinOf(t, 250)
			for _, i := range order(way, kind.keys) {
				w.put(t, kind.key(i), text(i, kind.size))
			}
			if got := w.height(t); got < kind.high {
				t.Fatalf("%s: the tree's height is %d", kind.name, got)
			}
			w.commit(t)
			for i := -1; i <= kind.keys; i++ {
				w.mustGet(t, kind.key(i&0x7fff))
			}
			for _, i := range order((way+way/2+1)%4, kind.keys) {
				w.delete(t, kind.key(i))
			}
			w.mustKeep(t)
			if w.root != 0 {
				t.Fatalf("%s: all deleted: the root %d", kind.name, w.root)
			}
			w.commit(t)
		}
	}
}

// height is that of a tree: how many pages there are from the root to a Leaf.
func (w *twin) height(t *testing.T) int {
	t.Helper()
	n := 0
	for at := w.root; at != 0; n++ {
		x, e := w.p.Read(at)
		mustBe(t, "Read", e, api.OK)
		at = 0
		if x.Kind == page.Branch {
			at = x.Kids[0].Page
		}
	}
	return n
}

// TestDeleteNone: P8.1, of a key that isn't there the same root, and false, and nothing has changed.
func TestDeleteNone(t *testing.T) {
	for _, keys := range []int{1, 2, 10, 100} {
		w := twinOf(t, 200)
		for i := range keys {
			w.put(t, long(2*i+1), text(i, 20))
		}
		w.commit(t)
		spare := w.p.Spare()
		for i := range keys + 1 {
			for _, key := range []string{long(2 * i), long(2*i) + "x", long(2 * i)[:31], long(2*i + 1)[:31], long(2*i+1) + "\x00", "", "\xff", "x"} {
				w.delete(t, key)
				w.mustGet(t, key)
			}
		}
		if !slices.Equal(w.p.Spare(), spare) || w.root != w.p.Root() {
			t.Fatalf("deletions of nothing: spare are %v, the root %d; ahead %v, %d", w.p.Spare(), w.root, spare, w.p.Root())
		}
	}
}

// TestOneOf: P8.1, P8.4, each key of a tree deleted alone, and put again.
func TestOneOf(t *testing.T) {
	for _, kind := range []struct {
		keys, size int
	}{{1, 0}, {2, 64}, {3, 64}, {7, 64}, {40, 64}, {40, 5}, {12, 500}} {
		w := twinOf(t, 250)
		for i := range kind.keys {
			w.put(t, long(i), text(i, kind.size))
		}
		w.commit(t)
		saved, was := w.p.Save(), w.apart()
		for i := range kind.keys {
			w.delete(t, long(i))
			w.mustGet(t, long(i))
			w.put(t, long(i), text(i, kind.size))
			w.delete(t, long(i))
			w.mustKeep(t)
			w.p.Back(saved)
			*w = was.apart()
		}
		w.mustTell(t, "behind all")
	}
}

// TestLowered: P8.4, keys put below all, time and again, and deleted from above.
func TestLowered(t *testing.T) {
	w := twinOf(t, 200)
	for i := 99; i >= 0; i-- {
		w.put(t, long(i)[i%30:], text(i, 20))
		if i%3 == 0 {
			w.put(t, "", text(i, 10))
			w.delete(t, "")
		}
	}
	for len(w.list) > 0 {
		w.delete(t, string(w.list[len(w.list)-1].Key))
	}
}

// TestSmall: a tree out of which most keys were deleted is small again, as pages that are less than half full are joined; keys that rise fill their pages.
func TestSmall(t *testing.T) {
	for way := range 4 {
		_, p := opened(t, 300)
		root := 0
		for _, i := range order(way, 300) {
			var e api.Errno
			root, e = tree.Put(p, root, []byte(long(i)), text(i, i%20))
			mustBe(t, "Put", e, api.OK)
		}
		full, _ := look(p, root)
		for _, i := range order(way, 300) {
			if i%30 != 0 {
				var e api.Errno
				root, _, e = tree.Delete(p, root, []byte(long(i)))
				mustBe(t, "Delete", e, api.OK)
			}
		}
		// Ten items of at most 55 bytes go into three pages, half full into five, and one stands above.
		less, ok := look(p, root)
		if !ok || len(less.pairs) != 10 || len(less.pages) > 6 {
			t.Fatalf("way %d: %d keys have %d pages", way, len(less.pairs), len(less.pages))
		}
		// Of items of 44.5 bytes each about five go into a page, of kids of 37 bytes six: at least 57 Leaves, and 10, 2 and 1 above. Half full they are 140.
		if most := []int{80, 145, 125, 125}[way]; len(full.pages) > most {
			t.Fatalf("way %d: 300 keys had %d pages", way, len(full.pages))
		}
	}
}
