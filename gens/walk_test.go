package gens_test

import (
	"math/rand"
	"slices"
	"testing"

	"terrier/api"
	"terrier/gens"
)

// grid are the revisions of which short histories are made, rising.
func grid() []api.Rev {
	var out []api.Rev
	for main := int64(1); main <= 4; main++ {
		out = append(out, at(main, 0), at(main, 2))
	}
	return out
}

// allShort goes through all short histories: each revision of the grid is a put, or a tombstone where that may be, or none; each with its plain one.
func allShort(t *testing.T, yield func(*gens.Gens, plain)) {
	t.Helper()
	all := grid()
	var grow func(i int, g *gens.Gens, p plain)
	grow = func(i int, g *gens.Gens, p plain) {
		if i == len(all) {
			yield(g, p)
			return
		}
		grow(i+1, g, p)
		h, q := g.Copy(), slices.Clone(p)
		mustBe(t, "Put", h.Put(all[i]), q.put(all[i]))
		grow(i+1, h, q)
		h, q = g.Copy(), slices.Clone(p)
		err := h.Tomb(all[i])
		mustBe(t, "Tomb", err, q.tomb(all[i]))
		if err == api.OK {
			grow(i+1, h, q)
		}
	}
	grow(0, &gens.Gens{}, nil)
}

// mustChangeLike changes copies of both, by each change that may come of some revisions.
func mustChangeLike(t *testing.T, g *gens.Gens, p plain, all ...api.Rev) {
	t.Helper()
	for _, r := range all {
		h, q := g.Copy(), slices.Clone(p)
		mustBe(t, "Put", h.Put(r), q.put(r))
		mustBeLike(t, h, q)
		h, q = g.Copy(), slices.Clone(p)
		mustBe(t, "Tomb", h.Tomb(r), q.tomb(r))
		mustBeLike(t, h, q)
		f := gens.Found{Mod: r, Create: p.following(r).create, Version: p.following(r).version}
		h, q = g.Copy(), slices.Clone(p)
		mustBe(t, "Restore", h.Restore(f, false), q.restore(f, false))
		mustBeLike(t, h, q)
	}
	mustBeLike(t, g, p)
}

// TestEveryShort: P11.1 to P11.5, every short history, compacted at each revision, and again at each: all that it tells, and each change behind it.
func TestEveryShort(t *testing.T) {
	count := 0
	allShort(t, func(g *gens.Gens, p plain) {
		count++
		mustChangeLike(t, g, p, at(2, 1), at(4, 2), at(4, 3), at(5, 0))
		for n := int64(0); n <= 5; n++ {
			h, q := g.Copy(), slices.Clone(p)
			mustCompactLike(t, h, &q, n)
			mustBeLike(t, h, q)
			mustTellFrom(t, n, p, h)
			mustBeLike(t, g, p)
			if count%5 == 0 {
				mustChangeLike(t, h, q, at(1, 0), at(4, 2), at(5, 0))
			}
			for m := int64(0); m <= 5; m++ {
				k, s := h.Copy(), slices.Clone(q)
				mustCompactLike(t, k, &s, m)
				mustBeLike(t, k, s)
			}
			mustBeLike(t, h, q)
		}
	})
	if count < 1000 {
		t.Errorf("%d short histories", count)
	}
}

// mustTellFrom asks that Get tells the same as ahead of the Compact, of at and of all above it.
func mustTellFrom(t *testing.T, n int64, was plain, g *gens.Gens) {
	t.Helper()
	for _, m := range append(was.asked(), n) {
		if m < n {
			continue
		}
		got, there := g.Get(m)
		if want, ok := was.get(m); got != want || there != ok {
			t.Fatalf("%v: behind Compact(%d) Get(%d): %v, %v; want %v, %v", was, n, m, got, there, want, ok)
		}
	}
}

// walker does the same to a history and to a plain one.
type walker struct {
	t *testing.T
	r *rand.Rand
	g *gens.Gens
	p plain
}

// someRev is a revision near the last one: above it, or it, or below it, at times not right.
func (w *walker) someRev() api.Rev {
	last := api.Rev{Main: 1}
	if len(w.p) > 0 {
		last = w.p[len(w.p)-1].rev
	}
	switch w.r.Intn(12) {
	case 0:
		return at(last.Main-int64(w.r.Intn(3)), last.Sub-int64(w.r.Intn(3)))
	case 1:
		return at(last.Main+int64(w.r.Intn(3)), int64(w.r.Intn(4))-1)
	case 2:
		return at(int64(w.r.Uint64()), int64(w.r.Uint64()))
	case 3, 4, 5:
		return at(last.Main, last.Sub+1+int64(w.r.Intn(3)))
	}
	return at(last.Main+1+int64(w.r.Intn(4)), int64(w.r.Intn(3)))
}

// someFound is a put as it may be told: mostly as it comes next.
func (w *walker) someFound() gens.Found {
	r := w.someRev()
	x := w.p.following(r)
	f := gens.Found{Mod: r, Create: x.create, Version: x.version}
	switch w.r.Intn(8) {
	case 0:
		f.Create += int64(w.r.Intn(5)) - 2
	case 1:
		f.Version += int64(w.r.Intn(5)) - 2
	case 2:
		f.Create, f.Version = int64(w.r.Intn(9))-1, int64(w.r.Intn(9))-1
	case 3:
		f.Version = greatest - int64(w.r.Intn(3))
	}
	return f
}

// someAt is a number near one of the revisions that are there.
func (w *walker) someAt() int64 {
	if len(w.p) == 0 || w.r.Intn(50) == 0 {
		return int64(w.r.Uint64())
	}
	i := w.r.Intn(len(w.p))
	if w.r.Intn(3) > 0 { // early, so that there are long ones
		i /= 4
	}
	return w.p[i].rev.Main + int64(w.r.Intn(3)) - 1
}

// step does one act.
func (w *walker) step() {
	w.t.Helper()
	switch n := w.r.Intn(100); {
	case n < 45:
		r := w.someRev()
		mustBe(w.t, "Put", w.g.Put(r), w.p.put(r))
	case n < 60:
		r := w.someRev()
		mustBe(w.t, "Tomb", w.g.Tomb(r), w.p.tomb(r))
	case n < 85:
		f, tomb := w.someFound(), w.r.Intn(6) == 0
		mustBe(w.t, "Restore", w.g.Restore(f, tomb), w.p.restore(f, tomb))
	case n < 90:
		at, was := w.someAt(), slices.Clone(w.p)
		mustCompactLike(w.t, w.g, &w.p, at)
		mustTellFrom(w.t, at, was, w.g)
	case n < 93: // the copy goes on, and the other one is spoilt
		was := w.g
		w.g = was.Copy()
		was.Put(at(maxRev, maxRev))
		was.Compact(greatest)
	}
}

// TestWalk: P11.1 to P11.5, long rows of calls beside the chapter's words.
func TestWalk(t *testing.T) {
	longest := 0
	for seed := range 200 {
		w := &walker{t: t, r: rand.New(rand.NewSource(int64(seed))), g: &gens.Gens{}}
		for range 400 {
			w.step()
			longest = max(longest, len(w.p))
			if len(w.p) < 12 || w.r.Intn(8) == 0 {
				mustBeLike(t, w.g, w.p)
			}
		}
		mustBeLike(t, w.g, w.p)
	}
	if longest < 50 {
		t.Errorf("no history was longer than %d", longest)
	}
}
