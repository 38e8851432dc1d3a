package tree_test

import (
	"math"
	"testing"

	"terrier/api"
	"terrier/tree"
)

// TestWalk: P8.1, ranges of trees of one Leaf, of Leaves beneath a Branch, and of more.
func TestWalk(t *testing.T) {
	for _, keys := range []int{1, 2, 3, 20, 60} {
		w := twinOf(t, 200)
		for i := range keys {
			w.put(t, short(2*i+0x100), text(i, []int{0, 5, 64, 65, 300}[i%5]))
		}
		w.commit(t)
		ends := [][]byte{nil, {}, {0}, {1}, {2}, {0xff}, {1, 0, 0}, {1, 1, 0}, make([]byte, 32), make([]byte, 400)}
		for i := range 2*keys + 2 {
			if i < 8 || i > 2*keys-8 || i%7 == 0 {
				ends = append(ends, []byte(short(i+0xff)))
			}
		}
		for _, from := range ends {
			for _, to := range ends {
				all := w.list.between(from, to, 0)
				for _, limit := range []int{0, -1, math.MinInt, 1, 2, len(all) - 1, len(all), len(all) + 1, math.MaxInt} {
					mustWalk(t, w.p, w.root, from, to, limit, w.list.between(from, to, limit))
				}
			}
		}
	}
}

// TestWalkEmptyEnd: P8.1, an empty to that isn't nil is an end below which no key is, even the empty one.
func TestWalkEmptyEnd(t *testing.T) {
	w := twinOf(t, 100)
	for _, root := range []int{0, 1, 2} {
		if root > 0 {
			w.put(t, "", []byte("of nothing"))
		}
		if root > 1 {
			for i := range 40 {
				w.put(t, short(i), text(i, 20))
			}
		}
		for _, from := range [][]byte{nil, {}, {0}, []byte("x")} {
			mustWalk(t, w.p, w.root, from, []byte{}, 0, nil)
			mustWalk(t, w.p, w.root, from, make([]byte, 0, 9), 5, nil)
			mustWalk(t, w.p, w.root, from, nil, 0, w.list.between(from, nil, 0))
		}
	}
	mustWalk(t, w.p, w.root, nil, []byte{0}, 0, w.list[:1])
}

// TestWalkBeyond: P8.1, of what it isn't asked for it needs no value.
func TestWalkBeyond(t *testing.T) {
	d, p := opened(t, 60)
	root := 0
	for i, key := range []string{"a", "b", "c"} {
		var e api.Errno
		root, e = tree.Put(p, root, []byte(key), text(i, []int{300, 5, 300}[i]))
		mustBe(t, "Put", e, api.OK)
	}
	p.SetRoot(root)
	mustBe(t, "Commit", p.Commit(), api.OK)
	x, e := p.Read(root)
	mustBe(t, "Read", e, api.OK)
	for _, item := range x.Items {
		if item.More != 0 {
			mustBe(t, "Write", d.Write(item.More, make([]byte, 256)), api.OK)
		}
	}
	mustWalk(t, p, root, []byte("aa"), []byte("c"), 0, list{{Key: []byte("b"), Value: text(1, 5)}})
	mustWalk(t, p, root, []byte("aa"), nil, 1, list{{Key: []byte("b"), Value: text(1, 5)}})
	for _, from := range []string{"", "a", "c"} {
		if pairs, e := tree.Walk(p, root, []byte(from), nil, 0); len(pairs) > 0 || e != api.ErrSum {
			t.Fatalf("Walk(%s): %q, %d", from, pairs, e)
		}
	}
}

// TestWalkReads: P8.1, of Leaves that have nothing of what it is asked for it needs none.
func TestWalkReads(t *testing.T) {
	h, root, leaves := threeLeaves(t)
	for i, id := range leaves {
		if i != 1 {
			mustBe(t, "Write", h.d.Write(id, make([]byte, 256)), api.OK)
		}
	}
	mustWalk(t, h.p, root, []byte("c"), []byte("e"), 0, plainOf("c", "d"))
	mustWalk(t, h.p, root, []byte("d"), []byte("e"), 0, plainOf("d"))
	mustWalk(t, h.p, root, []byte("c"), nil, 2, plainOf("c", "d"))
	mustWalk(t, h.p, root, []byte("cc"), []byte("d"), 0, nil)
	for _, ends := range [][]string{{"", "e"}, {"b", "e"}, {"c", "e\x00"}, {"c", "f"}} {
		if pairs, e := tree.Walk(h.p, root, []byte(ends[0]), []byte(ends[1]), 0); len(pairs) > 0 || e != api.ErrSum {
			t.Fatalf("Walk(%q): %q, %d", ends, pairs, e)
		}
	}
	if pairs, e := tree.Walk(h.p, root, []byte("c"), nil, 3); len(pairs) > 0 || e != api.ErrSum {
		t.Fatalf("Walk(c, 3): %q, %d", pairs, e)
	}
}
