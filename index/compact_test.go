package index_test

import (
	"testing"

	"terrier/api"
	"terrier/gens"
)

// TestCompactByHand: P12.3, at each revision: which revisions it tells, in which order, how many keys are left, and what is left of them.
func TestCompactByHand(t *testing.T) {
	for _, c := range []struct {
		from, to int64
		kept     []api.Rev
		length   int
		left     int // changes
	}{
		{least, least, nil, 5, 11},
		{-1, 1, nil, 5, 11},
		{2, 2, []api.Rev{at(2, 0), at(2, 1)}, 5, 11},
		{3, 3, []api.Rev{at(2, 0), at(2, 1), at(3, 0)}, 5, 11},
		{4, 5, []api.Rev{at(3, 0), at(4, 1), at(4, 7)}, 5, 8},
		{6, 6, []api.Rev{at(3, 0), at(4, 1), at(6, 2)}, 4, 6},
		{7, 8, []api.Rev{at(3, 0), at(4, 1), at(7, 0), at(7, 1)}, 4, 5},
		{9, 11, []api.Rev{at(3, 0), at(4, 1), at(7, 1)}, 3, 3},
		{greatest - 1, greatest - 1, []api.Rev{at(3, 0), at(4, 1), at(7, 1)}, 3, 3},
	} {
		for n := c.from; n <= c.to; n++ {
			x, p := built(t, usual()...)
			mustLen(t, x, 5)
			for range 2 { // a second time it forgets nothing more, and tells the same
				mustCompact(t, x, n, c.kept...)
				mustLen(t, x, c.length)
				if got := x.Since(nil, []byte(all), least); len(got) != c.left {
					t.Fatalf("Compact(%d) leaves %v", n, got)
				}
			}
			p.compact(n)
			mustBeLike(t, x, p)
		}
	}
}

// TestCompactForgets: P12.3, keys that are gone are forgotten, those that are there or come later are kept with their Create and versions.
func TestCompactForgets(t *testing.T) {
	x, _ := built(t, usual()...)
	mustCompact(t, x, 6, at(3, 0), at(4, 1), at(6, 2))
	mustMiss(t, x, "b", least, 2, 4, 5, 6, greatest)
	mustSince(t, x, "b", "", least)
	mustMiss(t, x, "a", 2, 3, 4, 5)
	mustSince(t, x, "", all, 0, put("", at(3, 0)), put("ab", at(4, 1)), put("a", at(6, 2)), put("\xff\xff", at(7, 0)), put("a", at(7, 1)), gone("\xff\xff", at(9, 4)))
	mustGet(t, x, "a", 6, at(6, 2), 6, 1)
	mustCompact(t, x, 7, at(3, 0), at(4, 1), at(7, 0), at(7, 1))
	mustGet(t, x, "a", 7, at(7, 1), 6, 2)
	mustMiss(t, x, "a", 6)
	mustPut(t, x, "a", at(10, 0))
	mustGet(t, x, "a", 10, at(10, 0), 6, 3)
	mustPut(t, x, "b", at(10, 1))
	mustGet(t, x, "b", 10, at(10, 1), 10, 1)
	mustLen(t, x, 5)
	mustCompact(t, x, 5, at(3, 0), at(4, 1)) // at a lesser one
	mustLen(t, x, 5)
	mustCompact(t, x, 2)
	mustCompact(t, x, 10, at(3, 0), at(4, 1), at(10, 0), at(10, 1))
	mustLen(t, x, 4)
	mustRange(t, x, "", all, 10, hit("", at(3, 0), 3, 1), hit("a", at(10, 0), 6, 3), hit("ab", at(4, 1), 4, 1), hit("b", at(10, 1), 10, 1))
}

// TestLastBehindCompact: P12.1 and P12.3, the index's last revision is the same ahead of any Compact and behind it, of one that left nothing, too.
func TestLastBehindCompact(t *testing.T) {
	for name, kind := range kinds(t) {
		if name == "new" {
			continue
		}
		for _, n := range []int64{0, 2, 5, 9, maxRev, greatest} {
			x, p := kind()
			mustCompactLike(t, x, &p, n)
			last := p.last
			for _, key := range askedKeys() {
				for _, r := range []api.Rev{last, at(1, 0), at(last.Main-1, maxRev)} {
					mustRefuse(t, name, x, []byte(key), gens.Found{Mod: r, Create: 1, Version: 1}, api.ErrExist)
				}
			}
			mustBeLike(t, x, p)
			mustBeLike(t, x.Copy(), p)
			mustBe(t, "Put to a copy", x.Copy().Put([]byte("new"), last), api.ErrExist)
			next := at(last.Main, last.Sub+1)
			mustBe(t, name+": Put", x.Put([]byte("b"), next), p.put("b", next))
			mustBeLike(t, x, p)
		}
	}
}

// TestKeep: P12.3, what Compact would tell; nothing is changed.
func TestKeep(t *testing.T) {
	x, p := built(t, usual()...)
	mustKeep(t, x, 4, at(3, 0), at(4, 1), at(4, 7))
	mustKeep(t, x, 3, at(2, 0), at(2, 1), at(3, 0)) // as ahead of it
	for name, kind := range kinds(t) {
		x, p := kind()
		for _, n := range p.asked() {
			mustKeep(t, x, n, p.keep(n)...)
			mustKeep(t, x, n, x.Copy().Compact(n)...)
		}
		mustBeLike(t, x, p)
		if name == "compacted to none" {
			mustKeep(t, x, greatest)
		}
	}
	mustBeLike(t, x, p)
}

// TestCompactTellsInOrder: P12.3, by revisions, not by keys.
func TestCompactTellsInOrder(t *testing.T) {
	x, _ := built(t,
		step{"put", "c", at(1, 0)}, step{"put", "a", at(1, 1)}, step{"put", "d", at(1, 2)},
		step{"put", "b", at(2, 0)}, step{"put", "a", at(3, 0)}, step{"put", "", at(3, 1)})
	mustCompact(t, x, 1, at(1, 0), at(1, 1), at(1, 2))
	mustCompact(t, x, 2, at(1, 0), at(1, 1), at(1, 2), at(2, 0))
	mustCompact(t, x, 3, at(1, 0), at(1, 2), at(2, 0), at(3, 0), at(3, 1))
	mustLen(t, x, 5)
}
