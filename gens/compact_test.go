package gens_test

import (
	"slices"
	"testing"

	"terrier/api"
	"terrier/gens"
)

// long is a history of three generations: two that ended, and one that is there.
func long(t *testing.T) *gens.Gens {
	t.Helper()
	g := &gens.Gens{}
	puts(t, g, at(3, 0), at(5, 0), at(5, 1), at(8, 0))
	tomb(t, g, at(10, 0))
	puts(t, g, at(12, 0), at(14, 0))
	tomb(t, g, at(14, 1))
	puts(t, g, at(14, 2), at(16, 0), at(18, 0))
	return g
}

// TestCompactByHand: P11.3, at each place: ahead of all, in the midst of a generation, at its last put, at its tombstone, behind it, with several changes of that Main, behind all.
func TestCompactByHand(t *testing.T) {
	first := []gens.Entry{a(3, 0), a(5, 0), a(5, 1), a(8, 0), z(10, 0)}
	second := []gens.Entry{a(12, 0), a(14, 0), z(14, 1)}
	third := []gens.Entry{a(14, 2), a(16, 0), a(18, 0)}
	all := slices.Concat(first, second, third)
	for _, c := range []struct {
		from, to int64
		there    bool
		kept     api.Rev
		left     []gens.Entry
	}{
		{least, least, false, api.Rev{}, all},
		{-1, 2, false, api.Rev{}, all},
		{3, 4, true, at(3, 0), all},
		{5, 7, true, at(5, 1), all[2:]},
		{8, 9, true, at(8, 0), all[3:]},
		{10, 11, false, api.Rev{}, all[5:]},
		{12, 13, true, at(12, 0), all[5:]},
		{14, 15, true, at(14, 2), all[8:]},
		{16, 17, true, at(16, 0), all[9:]},
		{18, 20, true, at(18, 0), all[10:]},
		{maxRev, maxRev + 1, true, at(18, 0), all[10:]},
		{greatest - 1, greatest - 1, true, at(18, 0), all[10:]},
	} {
		for n := c.from; n <= c.to; n++ {
			g := long(t)
			for range 2 { // a second time it forgets nothing more, and tells the same
				if r, there := g.Compact(n); r != c.kept || there != c.there {
					t.Fatalf("Compact(%d): %v, %v", n, r, there)
				}
				mustSince(t, g, least, c.left...)
				mustBeEmpty(t, g, false)
			}
		}
	}
	g := long(t)
	mustCompact(t, g, greatest, at(18, 0))
	mustSince(t, g, least, a(18, 0))
}

// TestCompactKeepsVersions: P11.3, a generation that keeps puts keeps its Create and versions, and what is put behind goes on from them.
func TestCompactKeepsVersions(t *testing.T) {
	g := long(t)
	mustCompact(t, g, 6, at(5, 1))
	mustGet(t, g, 5, at(5, 1), 3, 3)
	mustGet(t, g, 8, at(8, 0), 3, 4)
	mustMiss(t, g, 3, 4)
	mustCompact(t, g, 9, at(8, 0))
	mustGet(t, g, 9, at(8, 0), 3, 4)
	mustCompact(t, g, 17, at(16, 0))
	mustGet(t, g, 17, at(16, 0), 14, 2)
	mustGet(t, g, 18, at(18, 0), 14, 3)
	mustMiss(t, g, 15)
	mustCompact(t, g, 18, at(18, 0))
	puts(t, g, at(19, 0), at(20, 0))
	mustGet(t, g, 18, at(18, 0), 14, 3)
	mustGet(t, g, 19, at(19, 0), 14, 4)
	mustGet(t, g, 20, at(20, 0), 14, 5)
	mustCompact(t, g, 20, at(20, 0))
	mustGet(t, g, 20, at(20, 0), 14, 5)
	tomb(t, g, at(21, 0))
	mustGet(t, g, 20, at(20, 0), 14, 5)
	mustSince(t, g, 0, a(20, 0), z(21, 0))
	puts(t, g, at(22, 0))
	mustGet(t, g, 22, at(22, 0), 22, 1)
}

// TestCompactBackwards: P11.3, behind a Compact one at a lesser revision finds nothing there and forgets nothing.
func TestCompactBackwards(t *testing.T) {
	g := long(t)
	mustCompact(t, g, 16, at(16, 0))
	for _, n := range []int64{15, 14, 5, 0, -1, least} {
		mustCompactToNone(t, g, n)
		mustSince(t, g, least, a(16, 0), a(18, 0))
		mustBeEmpty(t, g, false)
	}
	mustCompact(t, g, 16, at(16, 0))
	mustGet(t, g, 16, at(16, 0), 14, 2)
}

// TestCompactToNone: P11.3, when all has ended up to at nothing is left, and what comes then begins anew, at any revision.
func TestCompactToNone(t *testing.T) {
	for _, n := range []int64{20, 21, maxRev, greatest} {
		for _, r := range []api.Rev{at(1, 0), at(18, 0), at(20, 0), at(20, 1), at(21, 0)} {
			g := long(t)
			tomb(t, g, at(20, 0))
			mustCompact(t, g, 19, at(18, 0))
			mustBeEmpty(t, g, false)
			mustCompactToNone(t, g, n)
			mustBeEmpty(t, g, true)
			mustMiss(t, g, least, 0, 18, 20, 21, greatest)
			mustCompactToNone(t, g, n)
			mustCompactToNone(t, g, 0)
			mustBe(t, "Tomb", g.Tomb(r), api.ErrNone)
			mustBe(t, "Restore of a tombstone", g.Restore(gens.Found{Mod: r, Create: 14, Version: 4}, true), api.ErrNone)
			mustBeEmpty(t, g, true)
			h := g.Copy()
			puts(t, g, r)
			mustGet(t, g, r.Main, r, r.Main, 1)
			mustBe(t, "Restore", h.Restore(gens.Found{Mod: r, Create: 1, Version: 9}, false), api.OK)
			mustGet(t, h, r.Main, r, 1, 9)
		}
	}
}

// TestCompactOneMain: P11.3, a generation that begins and ends in one Main, ahead of it and at it.
func TestCompactOneMain(t *testing.T) {
	build := func() *gens.Gens {
		g := &gens.Gens{}
		puts(t, g, at(7, 0))
		tomb(t, g, at(7, 1))
		puts(t, g, at(7, 2), at(7, 3))
		tomb(t, g, at(7, 4))
		return g
	}
	g := build()
	mustCompactToNone(t, g, 6)
	mustSince(t, g, 7, a(7, 0), z(7, 1), a(7, 2), a(7, 3), z(7, 4))
	mustCompactToNone(t, g, 7)
	mustBeEmpty(t, g, true)
	g = build()
	puts(t, g, at(7, 5), at(7, 6))
	mustCompact(t, g, 7, at(7, 6))
	mustSince(t, g, 0, a(7, 6))
	mustGet(t, g, 7, at(7, 6), 7, 2)
}

// TestForgetsNoMore: P11.3, of what is behind at all is kept, changes that Get tells of no revision too.
func TestForgetsNoMore(t *testing.T) {
	g := &gens.Gens{}
	puts(t, g, at(1, 0), at(9, 0), at(9, 1))
	tomb(t, g, at(9, 2))
	puts(t, g, at(9, 3))
	tomb(t, g, at(9, 4))
	for n := int64(1); n < 9; n++ {
		mustCompact(t, g, n, at(1, 0))
		mustSince(t, g, 0, a(1, 0), a(9, 0), a(9, 1), z(9, 2), a(9, 3), z(9, 4))
	}
}
