package index_test

import (
	"bytes"
	"slices"
	"testing"

	"terrier/api"
	"terrier/gens"
	"terrier/index"
)

// spoilBytes writes over bytes, the room behind them too.
func spoilBytes(b []byte) {
	b = b[:cap(b)]
	for i := range b {
		b[i] = 'Z'
	}
}

func spoilHits(hits []index.Hit) {
	hits = hits[:cap(hits)]
	for i := range hits {
		spoilBytes(hits[i].Key)
		hits[i] = hit("spoiled", at(77, 7), 7, 7)
	}
}

func spoilChanges(changes []index.Change) {
	changes = changes[:cap(changes)]
	for i := range changes {
		spoilBytes(changes[i].Key)
		changes[i] = gone("spoiled", at(77, 7))
	}
}

func spoilRevs(revs []api.Rev) {
	revs = revs[:cap(revs)]
	for i := range revs {
		revs[i] = at(77, 7)
	}
}

// TestAnswersAreNew: R4, what is written into an answer is seen neither in the index nor in another answer.
func TestAnswersAreNew(t *testing.T) {
	for name, kind := range kinds(t) {
		x, p := kind()
		for _, n := range p.asked() {
			hits, changes, kept := x.Range(nil, []byte(all), n), x.Since(nil, []byte(all), n), x.Keep(n)
			spoilHits(x.Range(nil, []byte(all), n))
			spoilChanges(x.Since(nil, []byte(all), n))
			spoilRevs(x.Keep(n))
			if !hitsAlike(hits, p.within("", all, n)) || !changesAlike(changes, p.since("", all, n)) || !slices.Equal(kept, p.keep(n)) {
				t.Fatalf("%s: two answers share memory", name)
			}
			mustSeemLike(t, x, p)
			y, q := x.Copy(), p.copy()
			told := y.Compact(n)
			spoilRevs(y.Compact(n))
			if !slices.Equal(told, q.compact(n)) {
				t.Fatalf("%s: two answers of Compact share memory", name)
			}
			mustSeemLike(t, y, q)
		}
		mustBeLike(t, x, p)
	}
}

// TestKeysOfOneAnswer: R4, no two keys of one answer share memory, those of one key neither.
func TestKeysOfOneAnswer(t *testing.T) {
	x, p := built(t, usual()...)
	changes := x.Since(nil, []byte(all), least)
	for i := range changes {
		spoilBytes(changes[i].Key)
		if !changesAlike(changes[i+1:], p.since("", all, least)[i+1:]) {
			t.Fatal("changes share a key")
		}
	}
	hits := x.Range(nil, []byte(all), 4)
	for i := range hits {
		spoilBytes(hits[i].Key)
		if !hitsAlike(hits[i+1:], p.within("", all, 4)[i+1:]) {
			t.Fatal("hits share a key")
		}
	}
	mustBeLike(t, x, p)
}

// TestAnswersStay: R4, what was told stays as it was, whatever the index is told behind it.
func TestAnswersStay(t *testing.T) {
	x, p := built(t, usual()...)
	hits, changes, kept := x.Range(nil, []byte(all), 4), x.Since(nil, []byte(all), 0), x.Keep(9)
	told := x.Compact(7)
	for n := int64(20); n < 40; n++ {
		mustPut(t, x, "", at(n, 0))
		mustPut(t, x, "ab", at(n, 1))
		mustTomb(t, x, "ab", at(n, 2))
		x.Compact(n)
	}
	if !hitsAlike(hits, p.within("", all, 4)) || !changesAlike(changes, p.since("", all, 0)) || !slices.Equal(kept, p.keep(9)) || !slices.Equal(told, p.keep(7)) {
		t.Fatal("what was told has changed")
	}
}

// roomy is these bytes with room behind them.
func roomy(text string) []byte {
	b := append([]byte(text), "spare room"...)
	return b[:len(text)]
}

// TestArgumentsStay: R4, what is handed in is not changed, its room neither.
func TestArgumentsStay(t *testing.T) {
	for _, kind := range kinds(t) {
		for _, key := range askedKeys() {
			for _, end := range []string{"", all, "b", "\xff"} {
				x, _ := kind()
				k, e := roomy(key), roomy(end)
				x.Put(k, at(50, 0))
				x.Put(k, at(50, 0))
				x.Tomb(k, at(51, 0))
				x.Tomb(k, at(52, 0))
				x.Restore(k, gens.Found{Mod: at(53, 0), Create: 2, Version: 3}, false)
				x.Restore(k, gens.Found{Mod: at(54, 0)}, true)
				x.Get(k, 50)
				spoilHits(x.Range(k, e, 50))
				spoilChanges(x.Since(k, e, 2))
				if !bytes.Equal(k[:cap(k)], roomy(key)[:cap(k)]) || !bytes.Equal(e[:cap(e)], roomy(end)[:cap(e)]) {
					t.Fatal("what was handed in has changed")
				}
			}
		}
	}
}

// TestKeysAreNotKept: R4, a key that is written into behind a call is not the index's.
func TestKeysAreNotKept(t *testing.T) {
	x, p := index.New(), plain{}
	one := roomy("kkk") // the same bytes at every call
	for i, key := range []string{"bbb", "aaa", "ccc", "aab", "bbb", "aaa"} {
		copy(one, key)
		r := at(int64(i+1), 0)
		mustBe(t, "Put", x.Put(one, r), p.put(key, r))
		spoilBytes(one)
		mustSeemLike(t, x, p)
	}
	copy(one, "ddd")
	f := gens.Found{Mod: at(20, 0), Create: 3, Version: 4}
	mustBe(t, "Restore", x.Restore(one, f, false), p.restore("ddd", f, false))
	copy(one, "bbb")
	mustBe(t, "Tomb", x.Tomb(one, at(21, 0)), p.tomb("bbb", at(21, 0)))
	spoilBytes(one)
	mustBeLike(t, x, p)
}

// acts change an index, each with the same on a plain one.
func acts() []func(*index.Index, *plain) {
	act := func(key string, main int64, tomb bool) func(*index.Index, *plain) {
		return func(x *index.Index, p *plain) {
			if tomb {
				x.Tomb([]byte(key), at(main, 3))
				p.tomb(key, at(main, 3))
				return
			}
			x.Put([]byte(key), at(main, 3))
			p.put(key, at(main, 3))
		}
	}
	out := []func(*index.Index, *plain){
		act("a", 50, false), act("", 55, false), act("new", 52, false), act("zz", 60, false),
		act("a", 51, true), act("ab", 58, true), act("b", 57, false), act("m", 56, true),
	}
	for _, n := range []int64{3, 4, 6, 7, 50, greatest} {
		out = append(out, func(x *index.Index, p *plain) { x.Compact(n); p.compact(n) })
	}
	return out
}

// TestCopyIsApart: P12.3, each of an index and its copy goes its own way, whichever is changed first; copies of a copy, too.
func TestCopyIsApart(t *testing.T) {
	for _, kind := range kinds(t) {
		for _, one := range acts() {
			for _, other := range acts() {
				x, p := kind()
				y, q := x.Copy(), p.copy()
				z, r := y.Copy(), p.copy()
				likeAll := func() {
					t.Helper()
					mustSeemLike(t, x, p)
					mustSeemLike(t, y, q)
					mustSeemLike(t, z, r)
				}
				one(x, &p)
				likeAll()
				other(y, &q)
				likeAll()
				other(x, &p)
				one(z, &r)
				likeAll()
			}
		}
	}
}

// TestCopyHasItsOwnRoom: P12.3, the room behind an index's keys isn't its copy's.
func TestCopyHasItsOwnRoom(t *testing.T) {
	x, p := index.New(), plain{}
	for n := int64(1); n < 40; n++ {
		key := string([]byte{byte(n * 37), byte(n)})
		mustBe(t, "Put", x.Put([]byte(key), at(n, 0)), p.put(key, at(n, 0)))
		y, q := x.Copy(), p.copy()
		z, s := x.Copy(), p.copy()
		mustBe(t, "Put", y.Put([]byte("Y"), at(n+2, 0)), q.put("Y", at(n+2, 0)))
		mustBe(t, "Put", z.Put([]byte("ZZ"), at(n+3, 0)), s.put("ZZ", at(n+3, 0)))
		mustSeemLike(t, y, q)
		mustSeemLike(t, z, s)
		mustSeemLike(t, x, p)
	}
}

// TestAsking: R3 and R5, what only asks changes nothing.
func TestAsking(t *testing.T) {
	for _, kind := range kinds(t) {
		x, p := kind()
		for range 3 {
			for _, n := range p.asked() {
				x.Get([]byte("a"), n)
				x.Range([]byte("a"), []byte(all), n)
				x.Since([]byte("a"), []byte("c"), n)
				x.Keep(n)
				x.Len()
				x.Copy().Compact(n)
			}
		}
		mustBeLike(t, x, p)
	}
}
