package tree_test

import (
	"bytes"
	"slices"
	"testing"

	"terrier/api"
	"terrier/tree"
)

// roomy is a row that has room behind it, in which something stands.
func roomy(b []byte) []byte {
	return append(append(make([]byte, 0, len(b)+300), b...), bytes.Repeat([]byte("R"), 300)...)[:len(b)]
}

// spoil writes over a row, the room behind it too.
func spoil(b []byte) {
	b = b[:cap(b)]
	for i := range b {
		b[i] += 0x35
	}
}

// mustStay asks that a row, and the room behind it, is as roomy made it.
func mustStay(t *testing.T, what string, b, was []byte) {
	t.Helper()
	if all := b[:cap(b)]; !bytes.HasPrefix(all, was) || !bytes.HasPrefix(all[len(was):], bytes.Repeat([]byte("R"), 300)) {
		t.Fatalf("%s has changed what it was handed: %q", what, all)
	}
}

// take takes what was made without it.
func (w *twin) take(t *testing.T, root int, has list) {
	t.Helper()
	w.root, w.list = root, has
	for _, id := range w.pages(t) {
		w.fresh[id] = true
	}
}

// TestInIsKept: P8.5, what is handed in isn't changed, the room behind it neither, nor kept.
func TestInIsKept(t *testing.T) {
	w := twinOf(t, 300)
	for i := range 40 {
		for _, length := range []int{0, 10, 64, 65, 237, 500} {
			key, value := roomy([]byte(long(i))), roomy(text(i, length))
			root, e := tree.Put(w.p, w.root, key, value)
			mustBe(t, "Put", e, api.OK)
			mustStay(t, "Put", key, []byte(long(i)))
			mustStay(t, "Put", value, text(i, length))
			spoil(key)
			spoil(value)
			w.take(t, root, w.list.with([]byte(long(i)), text(i, length)))
			w.mustGet(t, long(i))
			if length == 500 && i%4 > 0 {
				w.delete(t, long(i))
			}
		}
		w.mustTell(t, "behind what was spoilt")
		key := roomy([]byte(long(i)))
		_, _, e := tree.Get(w.p, w.root, key)
		mustBe(t, "Get", e, api.OK)
		mustStay(t, "Get", key, []byte(long(i)))
		to := roomy([]byte(long(i + 1)))
		_, e = tree.Walk(w.p, w.root, key, to, 0)
		mustBe(t, "Walk", e, api.OK)
		mustStay(t, "Walk", key, []byte(long(i)))
		mustStay(t, "Walk", to, []byte(long(i+1)))
		root, _, e := tree.Delete(w.p, w.root, key)
		mustBe(t, "Delete", e, api.OK)
		mustStay(t, "Delete", key, []byte(long(i)))
		spoil(key)
		w.take(t, root, w.list.without([]byte(long(i))))
		w.mustTell(t, "behind a deletion")
		w.put(t, long(i), text(i, 7))
	}
}

// TestOutIsNew: P8.5, answers are new memory: written over, they change neither the tree nor each other.
func TestOutIsNew(t *testing.T) {
	w := twinOf(t, 300)
	for i := range 60 {
		w.put(t, short(i), text(i, []int{0, 1, 64, 65, 237, 300}[i%6]))
	}
	for range 2 { // in the transaction, and on the disk
		for i := range 60 {
			value, found, e := tree.Get(w.p, w.root, []byte(short(i)))
			if !found || e != api.OK {
				t.Fatalf("Get: %v, %d", found, e)
			}
			spoil(value)
			w.mustGet(t, short(i))
		}
		pairs, e := tree.Walk(w.p, w.root, nil, nil, 0)
		mustBe(t, "Walk", e, api.OK)
		for i := range pairs {
			spoil(pairs[i].Key)
			for j, pair := range pairs {
				if !bytes.Equal(pair.Value, w.list[j].Value) && j >= i || j > i && !bytes.Equal(pair.Key, w.list[j].Key) {
					t.Fatalf("the key %d, written over, has changed the pair %d: %q", i, j, pair)
				}
			}
			spoil(pairs[i].Value)
			for j, pair := range pairs[i+1:] {
				if !bytes.Equal(pair.Value, w.list[i+1+j].Value) || !bytes.Equal(pair.Key, w.list[i+1+j].Key) {
					t.Fatalf("the value %d, written over, has changed the pair %d: %q", i, i+1+j, pair)
				}
			}
		}
		w.mustTell(t, "behind a Walk's answer")
		ids, e := tree.Pages(w.p, w.root)
		mustBe(t, "Pages", e, api.OK)
		was := slices.Clone(ids)
		for i := range ids[:cap(ids)] {
			ids[:cap(ids)][i] = 7
		}
		if again, e := tree.Pages(w.p, w.root); e != api.OK || !slices.Equal(again, was) {
			t.Fatalf("Pages: %v, %d; want %v", again, e, was)
		}
		w.commit(t)
	}
}
