package gens_test

import (
	"slices"
	"testing"

	"terrier/api"
	"terrier/gens"
)

// spoil writes over entries, the room behind them too.
func spoil(all []gens.Entry) {
	all = all[:cap(all)]
	for i := range all {
		all[i] = z(77, 77)
	}
}

// TestAnswersAreNew: R4, what is written into an answer of Since is seen neither in the history nor in another answer, nor the other way round.
func TestAnswersAreNew(t *testing.T) {
	for name, kind := range kinds(t) {
		g, p := kind()
		for _, n := range p.asked() {
			first, second := g.Since(n), g.Since(n)
			spoil(first)
			if !slices.Equal(second, p.since(n)) {
				t.Fatalf("%s: two answers of Since(%d) share memory", name, n)
			}
			mustBeLike(t, g, p)
			mustBeLike(t, g.Copy(), p)
		}
		told := g.Since(least)
		g.Put(at(90, 0))
		g.Tomb(at(91, 0))
		g.Compact(91)
		puts(t, g, at(92, 0), at(93, 0))
		if !slices.Equal(told, p.since(least)) {
			t.Fatalf("%s: what was told has become %v", name, told)
		}
	}
}

// changes are acts that change a history, each with the same on a plain one; they all answer OK where the key is there.
func changes() []func(*gens.Gens, *plain) {
	return []func(*gens.Gens, *plain){
		func(g *gens.Gens, p *plain) { g.Put(at(50, 0)); p.put(at(50, 0)) },
		func(g *gens.Gens, p *plain) { g.Put(at(60, 5)); p.put(at(60, 5)) },
		func(g *gens.Gens, p *plain) { g.Tomb(at(55, 0)); p.tomb(at(55, 0)) },
		func(g *gens.Gens, p *plain) { g.Compact(3); p.compact(3) },
		func(g *gens.Gens, p *plain) { g.Compact(4); p.compact(4) },
		func(g *gens.Gens, p *plain) { g.Compact(7); p.compact(7) },
		func(g *gens.Gens, p *plain) { g.Compact(greatest); p.compact(greatest) },
		func(g *gens.Gens, p *plain) {
			for n := int64(50); n < 60; n++ {
				g.Put(at(n, 1))
				p.put(at(n, 1))
			}
		},
		func(g *gens.Gens, p *plain) {
			for n := int64(50); n < 60; n += 2 {
				g.Tomb(at(n, 1))
				p.tomb(at(n, 1))
				g.Put(at(n+1, 1))
				p.put(at(n+1, 1))
			}
		},
	}
}

// TestCopyIsApart: P11.5, each of a history and its copy goes its own way, whichever is changed first; copies of a copy, too.
func TestCopyIsApart(t *testing.T) {
	for _, kind := range kinds(t) {
		for _, one := range changes() {
			for _, other := range changes() {
				g, p := kind()
				h, q := g.Copy(), slices.Clone(p)
				third, r := h.Copy(), slices.Clone(p)
				one(g, &p)
				mustBeLike(t, g, p)
				mustBeLike(t, h, q)
				other(h, &q)
				mustBeLike(t, g, p)
				mustBeLike(t, h, q)
				mustBeLike(t, third, r)
				other(g, &p)
				one(third, &r)
				mustBeLike(t, g, p)
				mustBeLike(t, h, q)
				mustBeLike(t, third, r)
			}
		}
	}
}

// TestCopyHasItsOwnRoom: P11.5, the room behind a history's puts isn't its copy's.
func TestCopyHasItsOwnRoom(t *testing.T) {
	g, p := &gens.Gens{}, plain{}
	for n := int64(1); n < 70; n++ {
		act, same := g.Put, p.put
		if n%9 == 0 {
			act, same = g.Tomb, p.tomb
		}
		mustBe(t, "an act", act(at(n, 0)), same(at(n, 0)))
		h, q := g.Copy(), slices.Clone(p)
		k, s := g.Copy(), slices.Clone(p)
		mustBe(t, "Put", h.Put(at(n+2, 0)), q.put(at(n+2, 0)))
		mustBe(t, "Put", k.Put(at(n+3, 0)), s.put(at(n+3, 0)))
		mustBeLike(t, h, q)
		mustBeLike(t, k, s)
		mustBeLike(t, g, p)
	}
}

// TestAsking: R3 and R5, what only asks, or answers an error, changes nothing.
func TestAsking(t *testing.T) {
	for _, kind := range kinds(t) {
		g, p := kind()
		for range 3 {
			for _, n := range p.asked() {
				g.Get(n)
				g.Since(n)
				g.Empty()
				g.Copy().Compact(n)
				mustBe(t, "Put", g.Put(at(0, n)), api.ErrRange)
				mustBe(t, "Tomb", g.Tomb(at(n, -1)), api.ErrRange)
				mustBe(t, "Restore", g.Restore(gens.Found{Mod: at(9, 0), Create: 10, Version: n}, false), api.ErrRange)
			}
		}
		mustBeLike(t, g, p)
	}
}
