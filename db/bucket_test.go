package db_test

import (
	"fmt"
	"math"
	"strings"
	"testing"

	"terrier/api"
	"terrier/tree"
)

// noNames are texts that no bucket has as its name.
func noNames() []string {
	return []string{"", strings.Repeat("n", 17), strings.Repeat("\x00", 17), strings.Repeat("n", 32), strings.Repeat("n", 33), strings.Repeat("n", 70000)}
}

// names are ones that a bucket may have.
func names() []string {
	out := []string{"b", "\x00", "\x00\x00", "\xff", "\xff\xfe\x80", "a b", "b\x00", "ba", "é", "meta", strings.Repeat("n", 15), strings.Repeat("n", 16), strings.Repeat("\x00", 16), strings.Repeat("\xff", 16)}
	for i := range 256 {
		out = append(out, string([]byte{byte(i), 'x'}))
	}
	return out
}

// TestNoName: P9.1, R2, a name of no bytes, or of too many, is told ahead of all else, by each call that takes one, and changes nothing.
func TestNoName(t *testing.T) {
	w := twinOf(t, 60)
	for _, committed := range []bool{false, true} {
		w.put(t, "n", "k", []byte("v"))
		w.put(t, strings.Repeat("n", 16), "k", []byte("v"))
		if committed {
			w.commit(t)
		}
		was := tells(t, w.b)
		for _, name := range noNames() {
			for _, key := range [][]byte{nil, []byte("k"), make([]byte, 33)} {
				for _, value := range [][]byte{nil, []byte("v"), make([]byte, 4097)} {
					mustBe(t, fmt.Sprintf("Put(%.40q)", name), w.b.Put(name, key, value), api.ErrArg)
				}
				if v, found, e := w.b.Get(name, key); len(v) > 0 || found || e != api.ErrArg {
					t.Fatalf("Get(%.40q): %q, %v, %d", name, v, found, e)
				}
				if found, e := w.b.Delete(name, key); found || e != api.ErrArg {
					t.Fatalf("Delete(%.40q): %v, %d", name, found, e)
				}
				if l, e := w.b.Walk(name, key, nil, 0); len(l) > 0 || e != api.ErrArg {
					t.Fatalf("Walk(%.40q): %q, %d", name, l, e)
				}
			}
		}
		was.mustStay(t, "behind no names", w.b)
	}
	w.mustTell(t, "behind no names")
}

// TestNames: P9.1, names with any bytes, of each length, each a bucket of its own; Buckets tells them rising.
func TestNames(t *testing.T) {
	w := twinOf(t, 1024)
	for i, name := range names() {
		w.mustGet(t, name, "k")
		w.put(t, name, "k", []byte(name))
		w.put(t, name, fmt.Sprint(i), text(i, i%80))
		if i%20 == 0 {
			w.mustTell(t, "behind another name")
		}
	}
	w.mustTell(t, "with all names")
	w.commit(t)
	w.reopen(t)
	for i, name := range names() {
		w.mustGet(t, name, "k")
		w.mustGet(t, name, fmt.Sprint(i))
		w.mustGet(t, name, fmt.Sprint(i+1))
		w.delete(t, name, "k")
		w.mustGet(t, name, "k")
		if i%2 == 0 {
			w.delete(t, name, fmt.Sprint(i))
		}
		if i%20 == 0 {
			w.mustTell(t, "with fewer names")
			w.commit(t)
		}
	}
	w.mustTell(t, "with half the names")
}

// TestNotThere: P9.1, of a bucket that isn't there: nothing, and no page is made for it.
func TestNotThere(t *testing.T) {
	w := twinOf(t, 60)
	for _, has := range []string{"", "m", "p", "n\x00", "gone"} {
		if has == "gone" {
			w.put(t, "n", "k", text(1, 300))
			w.delete(t, "n", "k")
		} else if has != "" {
			w.put(t, has, "k", []byte("v"))
		}
		was := tells(t, w.b)
		for _, key := range []string{"", "k", long(1), long(1) + "x", strings.Repeat("k", 5000)} {
			w.mustGet(t, "n", key)
			w.delete(t, "n", key)
			mustWalk(t, w.b, "n", []byte(key), nil, 0, nil)
			mustWalk(t, w.b, "n", nil, []byte(key), 5, nil)
		}
		was.mustStay(t, "behind what isn't there", w.b)
		w.mustTell(t, "behind what isn't there")
	}
}

// TestSame: P9.1, one key in many buckets has a value in each, and goes from one alone.
func TestSame(t *testing.T) {
	w := twinOf(t, 200)
	for i := range 20 {
		for _, key := range []string{"", "k", long(7)} {
			w.put(t, wide(i), key, text(i, 100-i))
		}
	}
	w.mustTell(t, "one key in many buckets")
	for i := range 20 {
		w.put(t, wide(i*7%20), "k", text(i, i))
		w.mustTell(t, "another value in one")
		w.delete(t, wide(i*3%20), "k")
		w.mustTell(t, "gone from one")
		for j := range 20 {
			w.mustGet(t, wide(j), "k")
		}
	}
}

// TestEnds: P9.1, Walk from and to all sorts of ends; an empty to that isn't nil is one.
func TestEnds(t *testing.T) {
	w := twinOf(t, 200)
	for _, name := range []string{"a", "b", "c"} {
		w.put(t, name, "", []byte("of "+name))
		for i := range 30 {
			w.put(t, name, fmt.Sprintf("%02d", 2*i), text(i, []int{0, 9, 64, 65, 300}[i%5]))
		}
	}
	ends := [][]byte{nil, {}, make([]byte, 0, 9), {0}, []byte("0"), []byte("00"), []byte("01"), []byte("02"), []byte("13"), []byte("30"), []byte("58"), []byte("59"), []byte("5x"), {255}, make([]byte, 400)}
	for _, from := range ends {
		for _, to := range ends {
			for _, limit := range []int{math.MinInt, -1, 0, 1, 2, 7, 30, 31, 32, math.MaxInt} {
				mustWalk(t, w.b, "b", from, to, limit, w.now.of("b").between(from, to, limit))
				mustWalk(t, w.b, "n", from, to, limit, nil)
			}
		}
	}
	if l, _ := w.b.Walk("b", nil, []byte{}, 0); len(l) > 0 {
		t.Fatalf("Walk to an empty end: %q", l)
	}
	if l, _ := w.b.Walk("b", nil, nil, 0); len(l) != 31 {
		t.Fatalf("Walk to no end: %q", l)
	}
}

// TestLengths: P9.1, keys and values at chapter 8's bounds, and one more.
func TestLengths(t *testing.T) {
	w := twinOf(t, 400)
	for _, n := range []int{0, 1, 31, 32} {
		for _, length := range lengths() {
			name, key := wide(n), string(text(length, n))
			w.put(t, name, key, text(n, length))
			w.mustGet(t, name, key)
			w.mustTell(t, "behind a Put")
			w.commit(t)
			w.mustGet(t, name, key)
			was := tells(t, w.b)
			for _, other := range []string{name, "none"} {
				mustBe(t, "a key that is too long", w.b.Put(other, text(length, 33), text(n, length)), api.ErrLong)
				mustBe(t, "a value that is too long", w.b.Put(other, []byte(key), text(n, 4097)), api.ErrLong)
				mustBe(t, "both", w.b.Put(other, make([]byte, 5000), make([]byte, 70000)), api.ErrLong)
			}
			was.mustStay(t, "behind ErrLong", w.b)
			w.delete(t, name, key)
			w.mustGet(t, name, key)
			w.mustTell(t, "behind a Delete")
		}
	}
}

// TestLastKey: P9.1, a bucket whose last key is deleted is none any more, and comes back with the next Put.
func TestLastKey(t *testing.T) {
	w := twinOf(t, 200)
	for i := range 12 {
		w.put(t, wide(i), "k", text(i, 30*i))
	}
	for i := range 12 {
		name := wide(i * 5 % 12)
		for range 2 {
			w.delete(t, name, "k")
			w.mustTell(t, "behind the last key")
			if _, found := w.now.at(name); found {
				t.Fatal("it is still there")
			}
			w.delete(t, name, "k")
			mustWalk(t, w.b, name, nil, nil, 0, nil)
			w.mustGet(t, name, "k")
			if i%3 == 0 {
				w.commit(t)
			}
			w.put(t, name, "l", text(i, 10))
			w.mustTell(t, "back with the next Put")
			w.put(t, name, "k", text(i, 300))
			w.delete(t, name, "l")
			w.mustTell(t, "with one key still")
		}
	}
	for i := range 12 {
		w.delete(t, wide(i), "k")
	}
	w.mustTell(t, "without a bucket")
	if got := w.b.Pages(); got != 0 {
		t.Fatalf("%d pages without a bucket", got)
	}
	w.commit(t)
	w.reopen(t)
}

// TestManyBuckets: P9.1, P9.2, so many that the tree of names has Branches, and buckets that have many keys.
func TestManyBuckets(t *testing.T) {
	w := twinOf(t, 1024)
	for i := range 150 {
		n := i * 37 % 150
		w.put(t, wide(n), fmt.Sprint(n), text(n, n))
		if i%10 == 0 {
			w.mustTell(t, "with more buckets")
		}
	}
	for i := range 60 {
		w.put(t, "big", long(i*7%60), text(i, i))
	}
	w.mustTell(t, "with many buckets")
	w.commit(t)
	w.reopen(t)
	for i := range 150 {
		w.delete(t, wide(i*41%150), fmt.Sprint(i*41%150))
		if i%10 == 0 {
			w.mustTell(t, "with fewer buckets")
		}
	}
	w.mustTell(t, "with one bucket")
	w.commit(t)
}

// TestPages: P9.2, all trees' pages: the names' and each bucket's, Pieces too.
func TestPages(t *testing.T) {
	w := twinOf(t, 200)
	for _, c := range []struct {
		name   string
		length int
		want   int
	}{{"a", 10, 2}, {"b", 64, 3}, {"c", 65, 5}, {"d", 237, 7}, {"e", 238, 10}, {"f", 4096, 29}, {"a", 20, 29}, {"f", 0, 11}, {"a", 238, 13}} {
		w.put(t, c.name, "k", text(1, c.length))
		if got := w.b.Pages(); got != c.want {
			t.Fatalf("behind %d bytes in %s: %d pages; want %d", c.length, c.name, got, c.want)
		}
		w.commit(t)
	}
	pages, e := onDisk(t, w.d)
	if len(pages) != 6 || e != 13 {
		t.Fatalf("%d buckets, %d pages", len(pages), e)
	}
}

// TestUnderRoot: P9.1, what the chapter says of the tree of names, made by hand, is a database.
func TestUnderRoot(t *testing.T) {
	h := handOf(t, 60)
	h.name(t, "a", four(h.tree(t, 300, "x", "y"))...)
	h.name(t, strings.Repeat("\xff", 16), four(h.tree(t, 5, "", long(3)))...)
	w := &twin{d: h.d, b: h.open(t), txn: 2}
	w.now = plain{{"a", list{pair("x", text(0, 300)), pair("y", text(1, 300))}}, {strings.Repeat("\xff", 16), list{pair("", text(0, 5)), pair(long(3), text(1, 5))}}}
	w.base = w.now
	w.mustTell(t, "by hand")
	w.put(t, "a", "z", nil)
	w.delete(t, "a", "x")
	w.commit(t)
}

// pair is a key and its value.
func pair(key string, value []byte) tree.Pair { return tree.Pair{Key: []byte(key), Value: value} }
