package gens_test

import (
	"testing"

	"terrier/api"
	"terrier/gens"
)

// TestExample: P11.1 and P11.3, the chapter's example.
func TestExample(t *testing.T) {
	g := &gens.Gens{}
	puts(t, g, at(1, 0), at(2, 0))
	tomb(t, g, at(3, 0))
	puts(t, g, at(4, 0))
	mustGet(t, g, 2, at(2, 0), 1, 2)
	mustMiss(t, g, 3)
	mustGet(t, g, 9, at(4, 0), 4, 1)
	mustCompact(t, g, 2, at(2, 0))
	mustGet(t, g, 2, at(2, 0), 1, 2)
	mustMiss(t, g, 1, 3)
	mustCompactToNone(t, g, 3)
	mustGet(t, g, 4, at(4, 0), 4, 1)
	mustSince(t, g, 0, a(4, 0))
	mustBeEmpty(t, g, false)
}

// TestZero: P11.1 to P11.4, the zero value has no history, and asking makes it none.
func TestZero(t *testing.T) {
	g := &gens.Gens{}
	for range 2 {
		mustBeEmpty(t, g, true)
		for _, n := range []int64{least, -1, 0, 1, maxRev, greatest} {
			mustMiss(t, g, n)
			mustSince(t, g, n)
			mustCompactToNone(t, g, n)
		}
		mustBe(t, "Tomb", g.Tomb(at(1, 0)), api.ErrNone)
		mustBe(t, "Restore", g.Restore(gens.Found{Mod: at(1, 0)}, true), api.ErrNone)
		mustBe(t, "Tomb", g.Tomb(at(maxRev, maxRev)), api.ErrNone)
		mustBeEmpty(t, g, true)
		if h := g.Copy(); h == nil || h == g {
			t.Fatal("Copy of a history without a revision")
		} else {
			mustBeEmpty(t, h, true)
			puts(t, h, at(1, 0))
		}
	}
	var value gens.Gens
	puts(t, &value, at(1, 0))
	mustGet(t, &value, 1, at(1, 0), 1, 1)
}

// TestNil: P11.5, a nil history, whatever it is told.
func TestNil(t *testing.T) {
	var g *gens.Gens
	for _, r := range append(wrongRevs(), at(1, 0), at(7, 3), at(maxRev, maxRev)) {
		mustBe(t, "Put", g.Put(r), api.ErrArg)
		mustBe(t, "Tomb", g.Tomb(r), api.ErrArg)
		for _, f := range []gens.Found{{Mod: r}, {Mod: r, Create: 1, Version: 1}, {Mod: r, Create: greatest, Version: least}} {
			mustBe(t, "Restore", g.Restore(f, false), api.ErrArg)
			mustBe(t, "Restore of a tombstone", g.Restore(f, true), api.ErrArg)
		}
	}
	for _, n := range []int64{least, -1, 0, 1, maxRev, greatest} {
		mustMiss(t, g, n)
		mustSince(t, g, n)
		mustCompactToNone(t, g, n)
	}
	mustBeEmpty(t, g, true)
	if g.Copy() != nil {
		t.Fatal("Copy of nil")
	}
}

// wrongRevs are revisions that aren't right.
func wrongRevs() []api.Rev {
	var out []api.Rev
	for _, wrong := range []int64{least, -maxRev, -1, maxRev + 1, greatest} {
		out = append(out, at(wrong, 0), at(wrong, maxRev), at(1, wrong), at(9, wrong), at(maxRev, wrong), at(wrong, wrong))
	}
	return append(out, at(0, 0), at(0, 1), at(0, maxRev))
}

// kinds are histories of all kinds, each with its plain one: none, a key that is there, one that is gone, one that came back; compacted ones too.
func kinds(t *testing.T) map[string]func() (*gens.Gens, plain) {
	t.Helper()
	build := func(text string, at ...int64) func() (*gens.Gens, plain) {
		return func() (*gens.Gens, plain) { return built(t, text, at...) }
	}
	return map[string]func() (*gens.Gens, plain){
		"none":                   build(""),
		"there":                  build("pp"),
		"gone":                   build("ppt"),
		"back":                   build("pptp"),
		"gone again":             build("pptppt"),
		"compacted":              build("pppp", 5),
		"compacted to the last":  build("pppp", 9),
		"compacted when gone":    build("pptpt", 7),
		"compacted to none":      build("ppt", 9),
		"compacted to one again": build("pptp", 9),
	}
}

// built is a history with a put (p) or a tombstone (t) at {2 1}, {4 1}, {6 1} .., compacted at these.
func built(t *testing.T, text string, compact ...int64) (*gens.Gens, plain) {
	t.Helper()
	g, p := &gens.Gens{}, plain{}
	for i, c := range text {
		r := at(int64(2*i+2), 1)
		if c == 'p' {
			mustBe(t, "Put", g.Put(r), api.OK)
			mustBe(t, "a plain put", p.put(r), api.OK)
		} else {
			mustBe(t, "Tomb", g.Tomb(r), api.OK)
			mustBe(t, "a plain tombstone", p.tomb(r), api.OK)
		}
	}
	for _, n := range compact {
		mustCompactLike(t, g, &p, n)
	}
	mustBeLike(t, g, p)
	return g, p
}

// TestWrongRevisions: P11.1 and P11.4, of any history ErrRange, ahead of all other errors, and nothing has changed.
func TestWrongRevisions(t *testing.T) {
	for name, kind := range kinds(t) {
		g, p := kind()
		for _, r := range wrongRevs() {
			mustBe(t, name+": Put", g.Put(r), api.ErrRange)
			mustBe(t, name+": Tomb", g.Tomb(r), api.ErrRange)
			for _, n := range []int64{least, 0, 1, 2, 5, greatest} {
				f := gens.Found{Mod: r, Create: n, Version: n}
				mustBe(t, name+": Restore", g.Restore(f, false), api.ErrRange)
				mustBe(t, name+": Restore of a tombstone", g.Restore(f, true), api.ErrRange)
			}
			f, _ := p.get(greatest)
			f.Mod, f.Version = r, f.Version+1
			mustBe(t, name+": Restore of what comes next", g.Restore(f, false), api.ErrRange)
		}
		mustBeLike(t, g, p)
	}
}

// TestNotAbove: P11.1, of the last revision and of those below it, by Main or by Sub, ErrExist, ahead of ErrNone; none of it is kept.
func TestNotAbove(t *testing.T) {
	for name, kind := range kinds(t) {
		g, p := kind()
		if len(p) == 0 {
			continue
		}
		last := p[len(p)-1].rev
		below := []api.Rev{last, at(last.Main, 0), at(1, 0), at(1, maxRev), at(last.Main-1, 0), at(last.Main-1, maxRev), at(last.Main-1, last.Sub)}
		for _, x := range p {
			below = append(below, x.rev, at(x.rev.Main, 0))
		}
		for _, r := range below {
			mustBe(t, name+": Put", g.Put(r), api.ErrExist)
			mustBe(t, name+": Tomb", g.Tomb(r), api.ErrExist)
			mustBe(t, name+": Restore of a tombstone", g.Restore(gens.Found{Mod: r}, true), api.ErrExist)
			f := p.following(r)
			want := api.ErrExist
			if f.create > r.Main { // it can't be of this generation
				want = api.ErrRange
			}
			mustBe(t, name+": Restore", g.Restore(gens.Found{Mod: r, Create: f.create, Version: f.version}, false), want)
		}
		mustBeLike(t, g, p)
	}
}

// TestAbove: P11.1, a revision with the last one's Main and a greater Sub is above it, as one with a greater Main is, whatever its Sub.
func TestAbove(t *testing.T) {
	for name, kind := range kinds(t) {
		g, p := kind()
		last := api.Rev{Main: 1, Sub: -1}
		if len(p) > 0 {
			last = p[len(p)-1].rev
		}
		for _, r := range []api.Rev{at(last.Main, last.Sub+1), at(last.Main, maxRev), at(last.Main+1, 0), at(last.Main+1, last.Sub+1), at(maxRev, 0), at(maxRev, maxRev)} {
			h, q := g.Copy(), append(plain{}, p...)
			mustBe(t, name+": Put", h.Put(r), q.put(r))
			mustBeLike(t, h, q)
			mustBe(t, name+": Put again", h.Put(r), api.ErrExist)
			mustBeLike(t, h, q)
			h, q = g.Copy(), append(plain{}, p...)
			mustBe(t, name+": Tomb", h.Tomb(r), q.tomb(r))
			mustBeLike(t, h, q)
			h, q = g.Copy(), append(plain{}, p...)
			mustBe(t, name+": Restore of a tombstone", h.Restore(gens.Found{Mod: r}, true), q.tomb(r))
			mustBeLike(t, h, q)
		}
		mustBeLike(t, g, p)
	}
}

// TestNone: P11.1 and P11.4, a tombstone where the key isn't there: ErrNone, whatever Restore is told beside it, and none of it is kept.
func TestNone(t *testing.T) {
	for _, name := range []string{"none", "gone", "gone again", "compacted when gone", "compacted to none"} {
		g, p := kinds(t)[name]()
		for _, r := range []api.Rev{at(20, 0), at(20, 5), at(maxRev, maxRev)} {
			mustBe(t, name+": Tomb", g.Tomb(r), api.ErrNone)
			for _, n := range []int64{least, -1, 0, 1, 2, 20, 21, greatest} {
				mustBe(t, name+": Restore", g.Restore(gens.Found{Mod: r, Create: n, Version: n}, true), api.ErrNone)
			}
		}
		mustBeLike(t, g, p)
		mustBe(t, name+": Put", g.Put(at(20, 0)), p.put(at(20, 0)))
		mustBeLike(t, g, p)
	}
}

// TestSeveralOfOneMain: P11.1 and P11.2, changes with one Main: the last one by Sub is what Get tells, Since tells all.
func TestSeveralOfOneMain(t *testing.T) {
	g := &gens.Gens{}
	puts(t, g, at(5, 0), at(5, 1), at(5, 7))
	mustGet(t, g, 5, at(5, 7), 5, 3)
	mustMiss(t, g, 4)
	tomb(t, g, at(5, 8))
	mustMiss(t, g, 4, 5, 6)
	puts(t, g, at(5, 9))
	mustGet(t, g, 5, at(5, 9), 5, 1)
	puts(t, g, at(6, 0))
	mustGet(t, g, 5, at(5, 9), 5, 1)
	mustGet(t, g, 6, at(6, 0), 5, 2)
	tomb(t, g, at(6, 1))
	mustMiss(t, g, 6, 7)
	puts(t, g, at(6, 2))
	tomb(t, g, at(6, 3))
	mustGet(t, g, 5, at(5, 9), 5, 1)
	mustMiss(t, g, 6, 7)
	late := []gens.Entry{a(6, 0), z(6, 1), a(6, 2), z(6, 3)}
	mustSince(t, g, 7)
	mustSince(t, g, 6, late...)
	all := append([]gens.Entry{a(5, 0), a(5, 1), a(5, 7), z(5, 8), a(5, 9)}, late...)
	mustSince(t, g, 5, all...)
	mustSince(t, g, 4, all...)
}

// TestAsked: P11.1 and P11.2, Get and Since ahead of all revisions, at each, between and behind them, below 0 and at the ends.
func TestAsked(t *testing.T) {
	g := &gens.Gens{}
	puts(t, g, at(3, 2), at(5, 0), at(8, 1))
	tomb(t, g, at(10, 0))
	puts(t, g, at(20, 0))
	tomb(t, g, at(22, 0))
	puts(t, g, at(30, 4), at(maxRev, maxRev))
	mustMiss(t, g, least, -1, 0, 1, 2, 10, 11, 19, 22, 23, 29)
	for n, want := range map[int64]gens.Found{
		3: {Mod: at(3, 2), Create: 3, Version: 1}, 4: {Mod: at(3, 2), Create: 3, Version: 1},
		5: {Mod: at(5, 0), Create: 3, Version: 2}, 7: {Mod: at(5, 0), Create: 3, Version: 2},
		8: {Mod: at(8, 1), Create: 3, Version: 3}, 9: {Mod: at(8, 1), Create: 3, Version: 3},
		20: {Mod: at(20, 0), Create: 20, Version: 1}, 21: {Mod: at(20, 0), Create: 20, Version: 1},
		30: {Mod: at(30, 4), Create: 30, Version: 1}, maxRev - 1: {Mod: at(30, 4), Create: 30, Version: 1},
		maxRev: {Mod: at(maxRev, maxRev), Create: 30, Version: 2}, maxRev + 1: {Mod: at(maxRev, maxRev), Create: 30, Version: 2},
		greatest: {Mod: at(maxRev, maxRev), Create: 30, Version: 2},
	} {
		mustGet(t, g, n, want.Mod, want.Create, want.Version)
	}
	all := []gens.Entry{a(3, 2), a(5, 0), a(8, 1), z(10, 0), a(20, 0), z(22, 0), a(30, 4), a(maxRev, maxRev)}
	for n, first := range map[int64]int{
		least: 0, -1: 0, 0: 0, 3: 0, 4: 1, 5: 1, 6: 2, 8: 2, 9: 3, 10: 3, 11: 4, 20: 4, 21: 5, 22: 5, 23: 6, 30: 6, 31: 7, maxRev: 7, maxRev + 1: 8, greatest: 8,
	} {
		mustSince(t, g, n, all[first:]...)
	}
}
