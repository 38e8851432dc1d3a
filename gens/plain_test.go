package gens_test

import (
	"math"
	"slices"
	"testing"

	"terrier/api"
	"terrier/gens"
)

const (
	maxRev   = 4611686018427387904 // 2^62, as the document says
	least    = math.MinInt64
	greatest = math.MaxInt64
)

// line is one revision of a plain history: of a put what the chapter's words say of it, and of all the generation that it is in.
type line struct {
	rev             api.Rev
	tomb            bool
	row             int
	create, version int64
}

// plain is a history as the chapter's words say it.
type plain []line

// at is a revision, by its two numbers.
func at(main, sub int64) api.Rev { return api.Rev{Main: main, Sub: sub} }

// isRight is chapter 10's words on a right revision.
func isRight(r api.Rev) bool {
	return 1 <= r.Main && r.Main <= maxRev && 0 <= r.Sub && r.Sub <= maxRev
}

// isAbove is chapter 10's words on the order of revisions.
func isAbove(r, other api.Rev) bool {
	return r.Main > other.Main || r.Main == other.Main && r.Sub > other.Sub
}

// afresh: is it above the last revision?
func (p plain) afresh(r api.Rev) bool { return len(p) == 0 || isAbove(r, p[len(p)-1].rev) }

// isThere: is the key there now?
func (p plain) isThere() bool { return len(p) > 0 && !p[len(p)-1].tomb }

// following is the line of a put that comes next.
func (p plain) following(r api.Rev) line {
	if !p.isThere() {
		row := 0
		if len(p) > 0 {
			row = p[len(p)-1].row + 1
		}
		return line{rev: r, row: row, create: r.Main, version: 1}
	}
	x := p[len(p)-1]
	version := int64(least)
	if x.version < greatest {
		version = x.version + 1
	}
	return line{rev: r, row: x.row, create: x.create, version: version}
}

func (p *plain) put(r api.Rev) api.Errno {
	switch {
	case !isRight(r):
		return api.ErrRange
	case !p.afresh(r):
		return api.ErrExist
	}
	*p = append(*p, p.following(r))
	return api.OK
}

func (p *plain) tomb(r api.Rev) api.Errno {
	switch {
	case !isRight(r):
		return api.ErrRange
	case !p.afresh(r):
		return api.ErrExist
	case !p.isThere():
		return api.ErrNone
	}
	*p = append(*p, line{rev: r, tomb: true, row: (*p)[len(*p)-1].row})
	return api.OK
}

func (p *plain) restore(f gens.Found, tomb bool) api.Errno {
	if tomb {
		return p.tomb(f.Mod)
	}
	if !isRight(f.Mod) || f.Create < 1 || f.Create > f.Mod.Main || f.Version < 1 {
		return api.ErrRange
	}
	x := p.following(f.Mod)
	if p.isThere() && (f.Create != x.create || f.Version != x.version) {
		return api.ErrForm
	}
	if !p.afresh(f.Mod) {
		return api.ErrExist
	}
	x.create, x.version = f.Create, f.Version
	*p = append(*p, x)
	return api.OK
}

// lastUpTo is the place of the last line whose Main is at most at, -1 if there is none.
func (p plain) lastUpTo(at int64) int {
	found := -1
	for i, x := range p {
		if x.rev.Main <= at {
			found = i
		}
	}
	return found
}

func (p plain) get(at int64) (gens.Found, bool) {
	i := p.lastUpTo(at)
	if i < 0 || p[i].tomb {
		return gens.Found{}, false
	}
	return gens.Found{Mod: p[i].rev, Create: p[i].create, Version: p[i].version}, true
}

func (p plain) since(main int64) []gens.Entry {
	var out []gens.Entry
	for _, x := range p {
		if x.rev.Main >= main {
			out = append(out, gens.Entry{Rev: x.rev, Tomb: x.tomb})
		}
	}
	return out
}

func (p *plain) compact(at int64) (api.Rev, bool) {
	there := p.lastUpTo(at)
	if there >= 0 && (*p)[there].tomb {
		there = -1
	}
	ended := map[int]bool{}
	for _, x := range *p {
		if x.tomb && x.rev.Main <= at {
			ended[x.row] = true
		}
	}
	var kept plain
	for i, x := range *p {
		forgotten := ended[x.row] || there >= 0 && x.row == (*p)[there].row && i < there
		if !forgotten {
			kept = append(kept, x)
		}
	}
	var told api.Rev
	if there >= 0 {
		told = (*p)[there].rev
	}
	*p = kept
	return told, there >= 0
}

// asked are the numbers that a history like a plain one is asked for: at, ahead of and behind each Main, and at the ends.
func (p plain) asked() []int64 {
	out := []int64{least, least + 1, -maxRev, -1, 0, 1, maxRev, maxRev + 1, greatest - 1, greatest}
	for _, x := range p {
		out = append(out, x.rev.Main-1, x.rev.Main, x.rev.Main+1)
	}
	slices.Sort(out)
	return slices.Compact(out)
}

// mustBeLike asks that a history tells all that a plain one tells.
func mustBeLike(t *testing.T, g *gens.Gens, p plain) {
	t.Helper()
	if got, want := g.Empty(), len(p) == 0; got != want {
		t.Fatalf("%v: Empty: %v", p, got)
	}
	for _, n := range p.asked() {
		got, there := g.Get(n)
		if want, ok := p.get(n); got != want || there != ok {
			t.Fatalf("%v: Get(%d): %v, %v; want %v, %v", p, n, got, there, want, ok)
		}
		if got, want := g.Since(n), p.since(n); !slices.Equal(got, want) {
			t.Fatalf("%v: Since(%d): %v; want %v", p, n, got, want)
		}
	}
}

// mustCompactLike compacts both.
func mustCompactLike(t *testing.T, g *gens.Gens, p *plain, n int64) {
	t.Helper()
	was := slices.Clone(*p)
	got, there := g.Compact(n)
	if want, ok := p.compact(n); got != want || there != ok {
		t.Fatalf("%v: Compact(%d): %v, %v; want %v, %v", was, n, got, there, want, ok)
	}
}

// mustBe asks for an error's number.
func mustBe(t *testing.T, what string, got, want api.Errno) {
	t.Helper()
	if got != want {
		t.Fatalf("%s: %d; want %d", what, got, want)
	}
}

// puts puts all of these.
func puts(t *testing.T, g *gens.Gens, all ...api.Rev) {
	t.Helper()
	for _, r := range all {
		mustBe(t, "Put", g.Put(r), api.OK)
	}
}

// tomb ends the generation.
func tomb(t *testing.T, g *gens.Gens, r api.Rev) {
	t.Helper()
	mustBe(t, "Tomb", g.Tomb(r), api.OK)
}

// mustGet asks what was there at at.
func mustGet(t *testing.T, g *gens.Gens, n int64, mod api.Rev, create, version int64) {
	t.Helper()
	want := gens.Found{Mod: mod, Create: create, Version: version}
	if got, there := g.Get(n); got != want || !there {
		t.Fatalf("Get(%d): %v, %v; want %v", n, got, there, want)
	}
}

// mustMiss asks that nothing was there then.
func mustMiss(t *testing.T, g *gens.Gens, all ...int64) {
	t.Helper()
	for _, n := range all {
		if got, there := g.Get(n); got != (gens.Found{}) || there {
			t.Fatalf("Get(%d): %v, %v; want nothing", n, got, there)
		}
	}
}

// mustCompact asks what Compact tells.
func mustCompact(t *testing.T, g *gens.Gens, n int64, want api.Rev) {
	t.Helper()
	if got, there := g.Compact(n); got != want || !there {
		t.Fatalf("Compact(%d): %v, %v; want %v", n, got, there, want)
	}
}

// mustCompactToNone asks that Compact tells of no put.
func mustCompactToNone(t *testing.T, g *gens.Gens, n int64) {
	t.Helper()
	if got, there := g.Compact(n); got != (api.Rev{}) || there {
		t.Fatalf("Compact(%d): %v, %v; want nothing", n, got, there)
	}
}

// a and z are an entry of a put, and one of a tombstone.
func a(main, sub int64) gens.Entry { return gens.Entry{Rev: at(main, sub)} }
func z(main, sub int64) gens.Entry { return gens.Entry{Rev: at(main, sub), Tomb: true} }

// mustSince asks for the entries from a Main on.
func mustSince(t *testing.T, g *gens.Gens, main int64, want ...gens.Entry) {
	t.Helper()
	if got := g.Since(main); !slices.Equal(got, want) {
		t.Fatalf("Since(%d): %v; want %v", main, got, want)
	}
}

// mustBeEmpty asks whether there is no history left.
func mustBeEmpty(t *testing.T, g *gens.Gens, want bool) {
	t.Helper()
	if got := g.Empty(); got != want {
		t.Fatalf("Empty: %v", got)
	}
	if want {
		mustSince(t, g, least)
		mustMiss(t, g, greatest)
	}
}
