package db_test

import (
	"bytes"
	"testing"

	"terrier/api"
	"terrier/disk"
)

// roomy is a row that has room behind it, in which something stands.
func roomy(b []byte) []byte {
	return append(append(make([]byte, 0, len(b)+300), b...), bytes.Repeat([]byte("R"), 300)...)[:len(b)]
}

// overwrite writes over a row, the room behind it too.
func overwrite(b []byte) {
	b = b[:cap(b)]
	for i := range b {
		b[i] += 0x35
	}
}

// mustKeep asks that a row, and the room behind it, is as roomy made it.
func mustKeep(t *testing.T, what string, b, was []byte) {
	t.Helper()
	if all := b[:cap(b)]; !bytes.HasPrefix(all, was) || !bytes.HasPrefix(all[len(was):], bytes.Repeat([]byte("R"), 300)) {
		t.Fatalf("%s has changed what it was handed: %q", what, all)
	}
}

// TestInIsKept: P9.4, what is handed in isn't changed, the room behind it neither, nor kept.
func TestInIsKept(t *testing.T) {
	w := twinOf(t, 300)
	for i := range 30 {
		for _, length := range []int{0, 10, 64, 65, 237, 500} {
			name := wide(i % 4)
			key, value := roomy([]byte(long(i))), roomy(text(i, length))
			mustBe(t, "Put", w.b.Put(name, key, value), api.OK)
			mustKeep(t, "Put", key, []byte(long(i)))
			mustKeep(t, "Put", value, text(i, length))
			overwrite(key)
			overwrite(value)
			w.now = w.now.put(name, long(i), text(i, length))
			w.mustTell(t, "behind what was written over")
			key, to := roomy([]byte(long(i))), roomy([]byte(long(i+1)))
			if _, _, e := w.b.Get(name, key); e != api.OK {
				t.Fatalf("Get: %d", e)
			}
			mustKeep(t, "Get", key, []byte(long(i)))
			if _, e := w.b.Walk(name, key, to, 0); e != api.OK {
				t.Fatalf("Walk: %d", e)
			}
			mustKeep(t, "Walk", key, []byte(long(i)))
			mustKeep(t, "Walk", to, []byte(long(i+1)))
			if i%3 == 0 {
				found, e := w.b.Delete(name, key)
				if !found || e != api.OK {
					t.Fatalf("Delete: %v, %d", found, e)
				}
				mustKeep(t, "Delete", key, []byte(long(i)))
				overwrite(key)
				w.now = w.now.delete(name, long(i))
				w.mustTell(t, "behind a deletion")
			}
		}
	}
	w.commit(t)
	w.reopen(t)
}

// TestOutIsNew: P9.4, answers are new memory: written over, they change neither the database nor each other.
func TestOutIsNew(t *testing.T) {
	w := rich(t)
	w.put(t, wide(0), "new", text(1, 20)) // in the transaction
	for _, s := range w.now {
		for _, pair := range s.list {
			v, found, e := w.b.Get(s.name, pair.Key)
			if !found || e != api.OK {
				t.Fatalf("Get: %v, %d", found, e)
			}
			overwrite(v)
			w.mustGet(t, s.name, string(pair.Key))
		}
		l, e := w.b.Walk(s.name, nil, nil, 0)
		mustBe(t, "Walk", e, api.OK)
		for i := range l {
			overwrite(l[i].Key)
			overwrite(l[i].Value)
			if !samePairs(l[i+1:], s.list[i+1:]) {
				t.Fatalf("the pair %d, written over, has changed another one", i)
			}
		}
		names := mustBuckets(t, w.b)
		clear(names[:cap(names)])
		w.mustTell(t, "behind answers that were written over")
	}
	c, e := w.b.Copy(disk.New(100))
	mustBe(t, "Copy", e, api.OK)
	mustHave(t, "the copy", c, w.now)
	w.commit(t)
}
