package index_test

import (
	"math/rand"
	"testing"

	"terrier/api"
	"terrier/gens"
	"terrier/index"
)

// walker does the same to an index and to a plain one.
type walker struct {
	t *testing.T
	r *rand.Rand
	x *index.Index
	p plain
}

// someKey is one of a few keys, many of them prefixes of others.
func (w *walker) someKey() string {
	few := []string{"", "\x00", "\x00\x00", "a", "a\x00", "aa", "ab", "b", "ba", "\xff", "\xff\xff"}
	return few[w.r.Intn(len(few))]
}

// someEnd is an end of each kind.
func (w *walker) someEnd() string {
	switch w.r.Intn(4) {
	case 0:
		return ""
	case 1:
		return all
	}
	return w.someKey()
}

// someRev is a revision near the last one: above it, or it, or below it, at times not right.
func (w *walker) someRev() api.Rev {
	last := w.p.last
	switch w.r.Intn(14) {
	case 0:
		return last
	case 1:
		return at(last.Main, last.Sub-1)
	case 2:
		return at(last.Main-1, int64(w.r.Intn(9)))
	case 3:
		return at(int64(w.r.Intn(int(last.Main+2))), int64(w.r.Intn(3)-1))
	case 4, 5, 6, 7:
		return at(last.Main, last.Sub+1+int64(w.r.Intn(3)))
	}
	return at(last.Main+1+int64(w.r.Intn(3)), int64(w.r.Intn(2)))
}

// someFound is what may be told of a put: oftenest what comes next.
func (w *walker) someFound(key string) gens.Found {
	f := w.p.following(key, w.someRev())
	switch w.r.Intn(8) {
	case 0:
		f.Version += int64(w.r.Intn(5) - 2)
	case 1:
		f.Create += int64(w.r.Intn(5) - 2)
	case 2:
		f.Create, f.Version = int64(w.r.Intn(9)), int64(w.r.Intn(9))
	}
	return f
}

// someNumber is a Main near those that are kept, at times one far off.
func (w *walker) someNumber() int64 {
	far := []int64{least, -1, 0, maxRev, greatest}
	if w.r.Intn(12) == 0 {
		return far[w.r.Intn(len(far))]
	}
	return max(0, w.p.last.Main-int64(w.r.Intn(25))) + 1
}

// step does one act to both.
func (w *walker) step() {
	w.t.Helper()
	key := w.someKey()
	k := []byte(key)
	switch w.r.Intn(12) {
	case 0, 1, 2, 3:
		r := w.someRev()
		mustBe(w.t, "Put", w.x.Put(k, r), w.p.put(key, r))
	case 4, 5, 6:
		r := w.someRev()
		mustBe(w.t, "Tomb", w.x.Tomb(k, r), w.p.tomb(key, r))
	case 7, 8:
		f := w.someFound(key)
		mustBe(w.t, "Restore", w.x.Restore(k, f, false), w.p.restore(key, f, false))
	case 9:
		f := w.someFound(key)
		mustBe(w.t, "Restore of a tombstone", w.x.Restore(k, f, true), w.p.restore(key, f, true))
	case 10:
		if w.r.Intn(3) == 0 {
			w.compact(w.someNumber())
		}
	default:
		w.x = w.x.Copy()
	}
}

// compact asks of a Compact that it tells of revisions at or above at what was told ahead of it.
func (w *walker) compact(n int64) {
	w.t.Helper()
	was := w.x.Copy()
	mustCompactLike(w.t, w.x, &w.p, n)
	for _, m := range append(w.p.asked(), n) {
		if m < n {
			continue
		}
		key, end := []byte(w.someKey()), []byte(w.someEnd())
		if got, want := w.x.Range(key, end, m), was.Range(key, end, m); !hitsAlike(got, want) {
			w.t.Fatalf("behind Compact(%d) Range(%q, %q, %d): %v; want %v", n, key, end, m, got, want)
		}
	}
}

// ask asks for some of all that may be asked.
func (w *walker) ask() {
	w.t.Helper()
	for range 6 {
		mustGetLike(w.t, w.x, w.p, w.someKey(), w.someNumber())
		mustRangeLike(w.t, w.x, w.p, w.someKey(), w.someEnd(), w.someNumber())
	}
	if got, want := w.x.Len(), len(w.p.keys()); got != want {
		w.t.Fatalf("%v: Len: %d", w.p, got)
	}
	n := w.someNumber()
	mustKeep(w.t, w.x, n, w.p.keep(n)...)
}

// TestWalks: P12.1 to P12.4, long rows of calls, beside a plain model of the chapter's words.
func TestWalks(t *testing.T) {
	for seed := range int64(300) {
		w := &walker{t: t, r: rand.New(rand.NewSource(seed)), x: index.New()}
		for i := range 150 {
			w.step()
			w.ask()
			if i%30 == 0 {
				mustSeemLike(t, w.x, w.p)
			}
		}
		mustSeemLike(t, w.x, w.p)
	}
}

// TestSameBehindCompact: P12.4, of every kind of index, compacted at each revision: what is told of it and of all above it, in every range.
func TestSameBehindCompact(t *testing.T) {
	for _, kind := range kinds(t) {
		x, p := kind()
		for _, n := range p.asked() {
			y := x.Copy()
			y.Compact(n)
			for _, m := range p.asked() {
				if m < n {
					continue
				}
				for _, key := range p.bounds() {
					for _, end := range []string{"", all, "ab", "b", "\xff\xff\xff"} {
						mustRange(t, y, key, end, m, p.within(key, end, m)...)
					}
				}
			}
		}
		mustSeemLike(t, x, p)
	}
}

// TestManyKeys: P12.1 and P12.2, a thousand keys in any order stand in theirs.
func TestManyKeys(t *testing.T) {
	x, p := index.New(), plain{}
	r := rand.New(rand.NewSource(1))
	for i, n := range r.Perm(1000) {
		key := string([]byte{'k', byte(n / 256), byte(n)})
		mustBe(t, "Put", x.Put([]byte(key), at(int64(i+1), 0)), p.put(key, at(int64(i+1), 0)))
	}
	mustLen(t, x, 1000)
	hits := x.Range([]byte("k"), []byte("l"), 1000)
	if len(hits) != 1000 {
		t.Fatalf("%d keys", len(hits))
	}
	for n, h := range hits {
		if string(h.Key) != string([]byte{'k', byte(n / 256), byte(n)}) {
			t.Fatalf("at the place %d: %q", n, h.Key)
		}
	}
	for i, c := range x.Since([]byte("k"), []byte("l"), 0) {
		if c.Rev != at(int64(i+1), 0) || string(c.Key) != p.lines[i].key {
			t.Fatalf("at the place %d: %v", i, c)
		}
	}
	if got := len(x.Range([]byte("k"), []byte(all), 400)); got != 400 {
		t.Fatalf("at 400: %d keys", got)
	}
	if got := len(x.Compact(300)); got != 300 {
		t.Fatalf("Compact(300) tells %d", got)
	}
}
