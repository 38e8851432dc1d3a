package gens_test

import (
	"testing"

	"terrier/api"
	"terrier/gens"
)

// told is a put, as Restore is told of it.
func told(main, sub, create, version int64) gens.Found {
	return gens.Found{Mod: at(main, sub), Create: create, Version: version}
}

// sorts are numbers of all sorts that a put at {40 0} may be told with.
func sorts() []int64 {
	return []int64{least, -1, 0, 1, 2, 3, 4, 5, 6, 8, 39, 40, 41, maxRev, greatest - 1, greatest}
}

// TestRestoreAnew: P11.4, onto nothing, or behind a tombstone, a generation begins with the Create and the Version that are told.
func TestRestoreAnew(t *testing.T) {
	for _, name := range []string{"none", "gone", "gone again", "compacted when gone", "compacted to none"} {
		for _, create := range sorts() {
			for _, version := range sorts() {
				g, p := kinds(t)[name]()
				want := api.OK
				if create < 1 || create > 40 || version < 1 {
					want = api.ErrRange
				}
				f := told(40, 0, create, version)
				mustBe(t, name+": Restore", g.Restore(f, false), want)
				mustBe(t, name+": a plain one", p.restore(f, false), want)
				mustBeLike(t, g, p)
				if want != api.OK {
					mustMiss(t, g, 40)
					continue
				}
				mustGet(t, g, 40, f.Mod, create, version)
				puts(t, g, at(50, 0))
				next := version + 1
				if version == greatest {
					next = least
				}
				mustGet(t, g, 50, at(50, 0), create, next)
			}
		}
	}
}

// TestRestoreNext: P11.4, where the key is there just the Create and the Version that come next are taken.
func TestRestoreNext(t *testing.T) {
	for name, next := range map[string]gens.Found{
		"there": told(40, 0, 2, 3), "back": told(40, 0, 8, 2), "compacted": told(40, 0, 2, 5),
		"compacted to the last": told(40, 0, 2, 5), "compacted to one again": told(40, 0, 8, 2),
	} {
		for _, create := range sorts() {
			for _, version := range sorts() {
				g, p := kinds(t)[name]()
				f := told(40, 0, create, version)
				want := api.ErrForm
				switch {
				case create < 1 || create > 40 || version < 1:
					want = api.ErrRange
				case f == next:
					want = api.OK
				}
				mustBe(t, name+": Restore", g.Restore(f, false), want)
				mustBe(t, name+": a plain one", p.restore(f, false), want)
				mustBeLike(t, g, p)
			}
		}
		g, _ := kinds(t)[name]()
		puts(t, g, next.Mod)
		mustGet(t, g, 40, next.Mod, next.Create, next.Version) // Put counts as Restore asks
	}
}

// TestRestoreOrder: P11.4, which error comes where several hold.
func TestRestoreOrder(t *testing.T) {
	there, p := kinds(t)["there"]() // {2 1}, {4 1}: next 2, 3
	for _, c := range []struct {
		f    gens.Found
		want api.Errno
	}{
		{told(4, 1, 2, 3), api.ErrExist},
		{told(4, 0, 2, 3), api.ErrExist},
		{told(3, 0, 2, 3), api.ErrExist},
		{told(2, 0, 2, 3), api.ErrExist},
		{told(1, 0, 2, 3), api.ErrRange},
		{told(4, 1, 1, 3), api.ErrForm},
		{told(4, 1, 2, 2), api.ErrForm},
		{told(4, 1, 2, 4), api.ErrForm},
		{told(1, 0, 1, 3), api.ErrForm},
		{told(4, 1, 5, 3), api.ErrRange},
		{told(4, 1, 0, 3), api.ErrRange},
		{told(4, 1, 2, 0), api.ErrRange},
		{told(9, 0, 3, 0), api.ErrRange},
		{told(9, 0, 10, 2), api.ErrRange},
		{told(9, -1, 2, 3), api.ErrRange},
		{told(9, maxRev+1, 3, 9), api.ErrRange},
		{told(maxRev+1, 0, 2, 3), api.ErrRange},
		{told(0, 0, 0, 0), api.ErrRange},
	} {
		mustBe(t, "Restore where the key is there", there.Restore(c.f, false), c.want)
	}
	mustBeLike(t, there, p)
	gone, q := kinds(t)["gone"]() // {2 1}, {4 1}, a tombstone {6 1}
	for _, c := range []struct {
		f    gens.Found
		want api.Errno
	}{
		{told(6, 1, 6, 1), api.ErrExist},
		{told(6, 0, 2, 3), api.ErrExist},
		{told(4, 1, 1, 9), api.ErrExist},
		{told(6, 1, 7, 1), api.ErrRange},
		{told(6, 1, 0, 1), api.ErrRange},
		{told(6, 1, 6, 0), api.ErrRange},
		{told(6, -1, 6, 1), api.ErrRange},
	} {
		mustBe(t, "Restore where the key is gone", gone.Restore(c.f, false), c.want)
	}
	mustBe(t, "Tomb at the tombstone", gone.Tomb(at(6, 1)), api.ErrExist)
	mustBe(t, "Restore of a tombstone at the tombstone", gone.Restore(told(6, 1, 2, 3), true), api.ErrExist)
	mustBeLike(t, gone, q)
	mustBe(t, "Restore", gone.Restore(told(6, 2, 1, 9), false), api.OK)
	mustGet(t, gone, 6, at(6, 2), 1, 9)
}

// TestRestoreTomb: P11.4, a tombstone is as Tomb's, whatever Create and Version are told beside it.
func TestRestoreTomb(t *testing.T) {
	for _, n := range sorts() {
		g, p := kinds(t)["there"]()
		mustBe(t, "Restore", g.Restore(told(40, 0, n, n), true), api.OK)
		mustBe(t, "a plain tombstone", p.tomb(at(40, 0)), api.OK)
		mustBeLike(t, g, p)
		mustBe(t, "Restore again", g.Restore(told(41, 0, n, n), true), api.ErrNone)
		mustBe(t, "Restore behind it", g.Restore(told(41, 0, 5, 6), false), api.OK)
		mustGet(t, g, 41, at(41, 0), 5, 6)
		mustMiss(t, g, 40)
	}
}

// TestGreatestVersion: P11.4, behind the version 2^63 - 1 comes the least number, which Restore can't be told.
func TestGreatestVersion(t *testing.T) {
	g := &gens.Gens{}
	mustBe(t, "Restore", g.Restore(told(5, 0, 3, greatest-1), false), api.OK)
	mustBe(t, "Restore of one too many", g.Restore(told(6, 0, 3, greatest-1), false), api.ErrForm)
	mustBe(t, "Restore of the greatest", g.Restore(told(6, 0, 3, greatest), false), api.OK)
	mustBe(t, "Restore of the greatest again", g.Restore(told(7, 0, 3, greatest), false), api.ErrForm)
	mustBe(t, "Restore of the least", g.Restore(told(7, 0, 3, least), false), api.ErrRange)
	mustBe(t, "Restore of 1", g.Restore(told(7, 0, 3, 1), false), api.ErrForm)
	puts(t, g, at(7, 0), at(8, 0))
	mustGet(t, g, 5, at(5, 0), 3, greatest-1)
	mustGet(t, g, 6, at(6, 0), 3, greatest)
	mustGet(t, g, 7, at(7, 0), 3, least)
	mustGet(t, g, 8, at(8, 0), 3, least+1)
	mustBe(t, "Restore of the next", g.Restore(told(9, 0, 3, least+2), false), api.ErrRange)
	mustCompact(t, g, 6, at(6, 0))
	mustGet(t, g, 7, at(7, 0), 3, least)
	mustCompact(t, g, 8, at(8, 0))
	mustGet(t, g, 9, at(8, 0), 3, least+1)
	puts(t, g, at(9, 0))
	mustGet(t, g, 9, at(9, 0), 3, least+2)
	tomb(t, g, at(10, 0))
	puts(t, g, at(11, 0))
	mustGet(t, g, 11, at(11, 0), 11, 1)
}

// TestRestoreAll: P11.4, a history that was compacted is restored from what it tells.
func TestRestoreAll(t *testing.T) {
	for _, text := range []string{"p", "pp", "ppt", "pptp", "pptpppt", "ptptptpp", "pppppppp"} {
		for n := range int64(20) {
			g, p := built(t, text, n)
			again := &gens.Gens{}
			for _, x := range p {
				f := gens.Found{Mod: x.rev, Create: x.create, Version: x.version}
				mustBe(t, "Restore", again.Restore(f, x.tomb), api.OK)
			}
			mustBeLike(t, again, p)
			mustBe(t, "Put behind it", g.Put(at(30, 0)), api.OK)
			mustBe(t, "Put behind it, restored", again.Put(at(30, 0)), api.OK)
			mustBe(t, "a plain put", p.put(at(30, 0)), api.OK)
			mustBeLike(t, g, p)
			mustBeLike(t, again, p)
		}
	}
}
