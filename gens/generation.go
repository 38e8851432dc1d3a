package gens

import (
	"math"
	"slices"

	"terrier/api"
	"terrier/rev"
)

// generation is a row of puts, and what ended it.
type generation struct {
	create  int64     // the Main of its first put, though that may be forgotten
	version int64     // of the first put that is kept
	puts    []api.Rev // rising
	end     api.Rev   // its tombstone; zero, which is no right revision, if it has none yet
}

// ended: has it its tombstone?
func (x generation) ended() bool { return x.end != (api.Rev{}) }

// newest: its last revision.
func (x generation) newest() api.Rev {
	if x.ended() {
		return x.end
	}
	return x.puts[len(x.puts)-1]
}

// below: how many of its puts are below a revision.
func (x generation) below(r api.Rev) int {
	n, _ := slices.BinarySearchFunc(x.puts, r, rev.Compare)
	return n
}

// found: what is told of a put of this revision that has so many kept ones ahead of it.
func (x generation) found(r api.Rev, ahead int) Found {
	return Found{Mod: r, Create: x.create, Version: x.version + int64(ahead)}
}

// forget: its first puts are gone; those behind them keep their versions.
func (x *generation) forget(n int) {
	x.puts = slices.Delete(x.puts, 0, n)
	x.version += int64(n)
}

// last: the last generation; nil: there is none.
func (g *Gens) last() *generation {
	if len(g.rising) == 0 {
		return nil
	}
	return &g.rising[len(g.rising)-1]
}

// going: the generation that hasn't ended; nil: there is none.
func (g *Gens) going() *generation {
	if x := g.last(); x != nil && !x.ended() {
		return x
	}
	return nil
}

// newest: the last revision; zero, which is below all right ones, if there is none.
func (g *Gens) newest() api.Rev {
	if x := g.last(); x != nil {
		return x.newest()
	}
	return api.Rev{}
}

// next: what is told of a put of this revision, if it comes next.
func (g *Gens) next(r api.Rev) Found {
	if x := g.going(); x != nil {
		return x.found(r, len(x.puts))
	}
	return Found{Mod: r, Create: r.Main, Version: 1}
}

// add: a put comes, of which this is told.
func (g *Gens) add(f Found) {
	if x := g.going(); x != nil {
		x.puts = append(x.puts, f.Mod)
		return
	}
	g.rising = append(g.rising, generation{create: f.Create, version: f.Version, puts: []api.Rev{f.Mod}})
}

// endedBelow: how many generations ended below a revision.
func (g *Gens) endedBelow(r api.Rev) int {
	for i, x := range slices.Backward(g.rising) { // what is asked for is oftener near the end
		if x.ended() && rev.Compare(x.end, r) < 0 {
			return i + 1
		}
	}
	return 0
}

// upTo: how many generations ended up to at, and how many puts up to at the one behind them has: 0, if the key isn't there then.
func (g *Gens) upTo(at int64) (ended, puts int) {
	if g == nil {
		return 0, 0
	}
	behind := api.Rev{Main: at, Sub: math.MaxInt64} // no right revision with this Main is above it
	ended = g.endedBelow(behind)
	if ended < len(g.rising) {
		puts = g.rising[ended].below(behind)
	}
	return ended, puts
}
