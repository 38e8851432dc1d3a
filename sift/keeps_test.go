package sift_test

import (
	"testing"

	"terrier/api"
	"terrier/sift"
)

// mustKeep asks whether a record is kept; what else stands in it, and in the query, says nothing.
func mustKeep(t *testing.T, what string, q api.Query, create, mod int64, want bool) {
	t.Helper()
	others := []api.KV{
		{}, kv("key", "value", 0, 0, 3, 4), kv("", "", 0, 0, greatest, least), kv("z", "", 0, 0, least, greatest)}
	for _, x := range others {
		x.Create, x.Mod = create, mod
		if got := sift.Keeps(q, x); got != want {
			t.Fatalf("%s: Keeps(%+v, %v): %v; want %v", what, q, x, got, want)
		}
		rest := q
		rest.Key, rest.End, rest.At = []byte("a"), []byte("b"), 7
		rest.Sort, rest.Limit, rest.Desc, rest.Keys, rest.Count = 4, 1, true, true, true
		if got := sift.Keeps(rest, x); got != want {
			t.Fatalf("%s: Keeps(%+v, %v): %v; want %v", what, rest, x, got, want)
		}
	}
}

// TestKeepsAll: P14.1, a bound that is 0 leaves nothing out.
func TestKeepsAll(t *testing.T) {
	for _, create := range bounds() {
		for _, mod := range bounds() {
			mustKeep(t, "no bound", api.Query{}, create, mod, true)
		}
	}
}

// TestKeepsAlone: P14.1, each bound alone, of numbers one below it, at it, one above it, and far off.
func TestKeepsAlone(t *testing.T) {
	for _, n := range []int64{1, 2, 3, 256, 1 << 32, maxRev - 1, maxRev, maxRev + 1, greatest - 1} {
		for _, c := range []struct {
			number            int64
			fromOn, upToThere bool
		}{
			{n - 1, false, true}, {n, true, true}, {n + 1, true, false},
			{0, false, true}, {-1, false, true}, {-n, false, true}, {least, false, true}, {greatest, true, false},
		} {
			for _, other := range []int64{least, -1, 0, 1, n - 1, n, n + 1, greatest} {
				mustKeep(t, "MinMod", api.Query{MinMod: n}, other, c.number, c.fromOn)
				mustKeep(t, "MaxMod", api.Query{MaxMod: n}, other, c.number, c.upToThere)
				mustKeep(t, "MinCreate", api.Query{MinCreate: n}, c.number, other, c.fromOn)
				mustKeep(t, "MaxCreate", api.Query{MaxCreate: n}, c.number, other, c.upToThere)
			}
		}
	}
	mustKeep(t, "the greatest MaxMod", api.Query{MaxMod: greatest}, 1, greatest, true)
	mustKeep(t, "the greatest MinMod", api.Query{MinMod: greatest}, 1, greatest-1, false)
	mustKeep(t, "the greatest MinMod", api.Query{MinMod: greatest}, 1, greatest, true)
}

// TestKeepsByHand: P14.1, all bounds together, each one leaving out what the others keep.
func TestKeepsByHand(t *testing.T) {
	q := api.Query{MinMod: 10, MaxMod: 20, MinCreate: 3, MaxCreate: 7}
	for _, c := range []struct {
		create, mod int64
		want        bool
	}{
		{5, 15, true}, {3, 10, true}, {7, 20, true}, {3, 20, true}, {7, 10, true},
		{5, 9, false}, {5, 21, false}, {2, 15, false}, {8, 15, false},
		{2, 9, false}, {8, 21, false}, {15, 5, false}, {0, 0, false},
	} {
		mustKeep(t, "all together", q, c.create, c.mod, c.want)
	}
	mustKeep(t, "the greater one below the less one", api.Query{MinMod: 9, MaxMod: 8}, 1, 8, false)
	mustKeep(t, "the greater one below the less one", api.Query{MinMod: 9, MaxMod: 8}, 1, 9, false)
	mustKeep(t, "both the same", api.Query{MinMod: 9, MaxMod: 9, MinCreate: 2, MaxCreate: 2}, 2, 9, true)
}

// TestKeepsTogether: P14.1, all bounds of a few numbers, with all records of these; below 0 a bound isn't 0 either.
func TestKeepsTogether(t *testing.T) {
	few := []int64{-2, -1, 0, 1, 2, 3}
	for _, a := range few {
		for _, b := range few {
			for _, c := range few {
				for _, d := range few {
					q := api.Query{MinMod: a, MaxMod: b, MinCreate: c, MaxCreate: d}
					for _, create := range few {
						for _, mod := range few {
							x := api.KV{Key: []byte("a"), Create: create, Mod: mod}
							if got := sift.Keeps(q, x); got != isKept(q, x) {
								t.Fatalf("Keeps(%+v, %v): %v", q, x, got)
							}
						}
					}
				}
			}
		}
	}
}

// TestKeepsIsSifted: P14.1, what Sift tells of one record is what Keeps says of it.
func TestKeepsIsSifted(t *testing.T) {
	few := []int64{0, 1, 2, 3, greatest}
	for i := range 4 {
		for j := range i {
			for _, n := range few {
				for _, m := range few {
					var q api.Query
					*boundOf(&q, i), *boundOf(&q, j) = n, m
					for _, x := range []api.KV{kv("a", "v", 1, 1, 1, 0), kv("a", "v", 1, 2, 2, 0), kv("a", "v", 2, 2, 1, 1), kv("a", "v", 2, 3, 2, 0)} {
						got := mustSift(t, "one record", q, []api.KV{x})
						if (len(got.KVs) == 1) != sift.Keeps(q, x) || got.Count != 1 || got.More {
							t.Fatalf("Sift(%+v, %v): %v", q, x, got)
						}
					}
				}
			}
		}
	}
}
