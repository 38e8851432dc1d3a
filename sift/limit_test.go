package sift_test

import (
	"fmt"
	"slices"
	"testing"

	"terrier/api"
	"terrier/sift"
)

// many is n records of unlike keys, by rising keys; what Create and Mod are goes up with them.
func many(n int) []api.KV {
	var out []api.KV
	for i := range n {
		m := int64(i + 1)
		out = append(out, kv(fmt.Sprintf("key%06d", i), fmt.Sprintf("v%d", i%7), m, 2*m, m%5+1, m%3))
	}
	return out
}

// shape asks how many records a query tells of these, how many it counts, and whether there are more.
func shape(t *testing.T, what string, q api.Query, l []api.KV, told int, more bool) {
	t.Helper()
	got := sift.Sift(q, l)
	if len(got.KVs) != told || got.Count != int64(len(l)) || got.More != more {
		t.Fatalf("%s: Sift(%+v): %d of %d, %v; want %d of %d, %v", what, q, len(got.KVs), got.Count, got.More, told, len(l), more)
	}
}

// TestOfNone: P14.1, of no records nothing is told, whatever is asked.
func TestOfNone(t *testing.T) {
	for _, l := range [][]api.KV{nil, {}, make([]api.KV, 0, 5)} {
		for by := range 5 {
			for _, limit := range []int64{0, 1, 4096} {
				for flags := range 8 {
					q := api.Query{Sort: by, Limit: limit, Desc: flags&1 != 0, Keys: flags&2 != 0, Count: flags&4 != 0}
					if got := sift.Sift(q, l); !nothing(got) {
						t.Fatalf("Sift(%+v) of none: %v", q, got)
					}
				}
			}
		}
	}
}

// TestOfOne: P14.1, one record: all of it is told, or its key alone, or that it is there.
func TestOfOne(t *testing.T) {
	x := kv("key", "value", 1, 3, 2, 9)
	bare := kv("key", "", 1, 3, 2, 9)
	for by := range 5 {
		for _, desc := range []bool{false, true} {
			for _, limit := range []int64{0, 1, 2, 4096} {
				q := api.Query{Sort: by, Desc: desc, Limit: limit}
				if got := mustSift(t, "one", q, []api.KV{x}); !resultsAlike(got, api.Result{KVs: []api.KV{x}, Count: 1}) {
					t.Fatalf("Sift(%+v): %v", q, got)
				}
				q.Keys = true
				if got := mustSift(t, "its key", q, []api.KV{x}); !resultsAlike(got, api.Result{KVs: []api.KV{bare}, Count: 1}) {
					t.Fatalf("Sift(%+v): %v", q, got)
				}
				q.Count = true
				if got := mustSift(t, "counted", q, []api.KV{x}); !resultsAlike(got, api.Result{Count: 1}) {
					t.Fatalf("Sift(%+v): %v", q, got)
				}
				q.Keys, q.Count, q.MinMod = false, false, 4
				if got := mustSift(t, "left out", q, []api.KV{x}); !resultsAlike(got, api.Result{Count: 1}) {
					t.Fatalf("Sift(%+v): %v", q, got)
				}
			}
		}
	}
}

// TestAnyRecord: R1, a record that isn't right is told as it is.
func TestAnyRecord(t *testing.T) {
	long := string(make([]byte, 70000))
	for _, x := range []api.KV{{}, kv("", "v", 0, 0, 0, 0), kv("a", "", least, least, least, least), kv(long, long, greatest, greatest, greatest, greatest), kv("a", "b", 9, 2, -1, -7)} {
		if got := mustSift(t, "any record", api.Query{}, []api.KV{x}); !alike(got.KVs[0], x) {
			t.Fatalf("Sift of %v: %v", x, got)
		}
	}
}

// TestLimit: P14.1, a limit of 0, one less than are kept, just as many, one more, and far more.
func TestLimit(t *testing.T) {
	for _, n := range []int{1, 2, 3, 10, 255, 256, 257} {
		l := backward(many(n))
		shape(t, "no limit", api.Query{}, l, n, false)
		for limit := 1; limit <= n+2; limit++ {
			shape(t, "a limit", api.Query{Limit: int64(limit)}, l, min(limit, n), limit < n)
		}
		shape(t, "the greatest limit", api.Query{Limit: 4096}, l, n, false)
		for kept := 0; kept <= n; kept += 1 + n/4 { // of which the first ones are left out
			from := int64(2 * (n - kept + 1))
			shape(t, "no limit", api.Query{MinMod: from}, l, kept, false)
			for limit := max(1, kept-2); limit <= kept+2; limit++ {
				shape(t, "a limit", api.Query{MinMod: from, Limit: int64(limit)}, l, min(limit, kept), limit < kept)
			}
		}
	}
}

// TestGreatestLimit: P14.1, around a limit of 4,096, and more than that without.
func TestGreatestLimit(t *testing.T) {
	all := backward(many(5000))
	for _, n := range []int{4094, 4095, 4096, 4097, 4098, 5000} {
		l := all[5000-n:]
		for _, limit := range []int{4095, 4096} {
			shape(t, "near the greatest limit", api.Query{Limit: int64(limit)}, l, min(limit, n), limit < n)
		}
		shape(t, "no limit", api.Query{Sort: api.ByVersion}, l, n, false)
		if got := sift.Sift(api.Query{Limit: 4097}, l); !nothing(got) {
			t.Fatalf("a limit that is too great: %d of %d", len(got.KVs), got.Count)
		}
	}
	rising := backward(all)
	if got := sift.Sift(api.Query{}, all); !listsAlike(got.KVs, rising) {
		t.Fatal("5,000 records aren't in order")
	}
	if got := sift.Sift(api.Query{Desc: true, Limit: 4096}, rising); !listsAlike(got.KVs, all[:4096]) || !got.More {
		t.Fatal("the first 4,096 of 5,000 aren't told")
	}
}

// TestKeys: P14.1, with Keys each is told without its Value, all other parts as they are, in the order that the values give them.
func TestKeys(t *testing.T) {
	l := []api.KV{kv("a", "z", 1, 2, 3, 4), kv("b", "", 5, 6, 7, 8), kv("c", "y", 9, 10, 11, 12), kv("d", "x", 13, 14, 15, 16)}
	for by := range 5 {
		for _, desc := range []bool{false, true} {
			for _, limit := range []int64{0, 1, 3, 4, 5} {
				for _, most := range []int64{0, 10, 1} {
					q := api.Query{Sort: by, Desc: desc, Limit: limit, MaxMod: most}
					whole := mustSift(t, "whole", q, l)
					q.Keys = true
					bare := mustSift(t, "keys", q, l)
					if len(bare.KVs) != len(whole.KVs) || bare.Count != 4 || bare.More != whole.More {
						t.Fatalf("Sift(%+v): %v; without Keys %v", q, bare, whole)
					}
					for i, x := range bare.KVs {
						want := whole.KVs[i]
						want.Value = nil
						if len(x.Value) != 0 || !alike(x, want) {
							t.Fatalf("Sift(%+v): %v; want %v", q, x, want)
						}
					}
				}
			}
		}
	}
	mustTell(t, "keys by value", api.Query{Sort: api.ByValue, Keys: true, Limit: 3}, l, true, "b", "d", "c")
}

// TestCount: P14.1, with Count no record is told, and never that there are more; what is left out counts too.
func TestCount(t *testing.T) {
	for _, n := range []int{0, 1, 2, 7, 5000} {
		l := many(n)
		for by := range 5 {
			for _, limit := range []int64{0, 1, 2, 6, 7, 8, 4096} {
				for flags := range 4 {
					for _, from := range []int64{0, 1, 5, 100000} {
						q := api.Query{Sort: by, Limit: limit, Desc: flags&1 != 0, Keys: flags&2 != 0, Count: true, MinMod: from}
						shape(t, "counted", q, l, 0, false)
					}
				}
			}
		}
	}
}

// TestManyRecords: P14.1, more records than two bytes count.
func TestManyRecords(t *testing.T) {
	l := many(70000)
	shape(t, "all", api.Query{Sort: api.ByValue}, l, 70000, false)
	shape(t, "the first", api.Query{Sort: api.ByMod, Desc: true, Limit: 4096}, l, 4096, true)
	shape(t, "counted", api.Query{Count: true}, l, 0, false)
	shape(t, "none kept", api.Query{MinMod: 140001}, l, 0, false)
	shape(t, "the last one kept", api.Query{MinMod: 140000, Limit: 1}, l, 1, false)
}

// TestCountsAll: P14.1, Count is of all that are handed in, whatever is kept, told or asked for.
func TestCountsAll(t *testing.T) {
	l := many(9)
	for _, q := range []api.Query{
		{}, {Limit: 1}, {Limit: 9}, {Limit: 10}, {MinMod: 4}, {MaxMod: 1}, {MinCreate: 100}, {MaxCreate: 3, Limit: 1}, {Keys: true},
		{MinMod: 4, Keys: true, Limit: 2}, {Count: true}, {Count: true, MinMod: 100}, {Count: true, Limit: 3},
		{Key: []byte("key000001")}, {Key: []byte("x"), End: []byte("y")}, {At: 3},
	} {
		if got := mustSift(t, "counts all", q, l); got.Count != 9 {
			t.Fatalf("Sift(%+v): %d", q, got.Count)
		}
	}
}

// TestMore: P14.1, there are more only because of a limit: not of those that the sieve leaves out, nor where none is told.
func TestMore(t *testing.T) {
	l := many(6) // whose Mods are 2, 4 .. 12
	for _, c := range []struct {
		q    api.Query
		more bool
	}{
		{api.Query{}, false}, {api.Query{Limit: 5}, true}, {api.Query{Limit: 6}, false}, {api.Query{Limit: 7}, false},
		{api.Query{MinMod: 12}, false}, {api.Query{MinMod: 12, Limit: 1}, false}, {api.Query{MinMod: 11, Limit: 1}, false},
		{api.Query{MinMod: 10, Limit: 1}, true}, {api.Query{MinMod: 10, Limit: 2}, false}, {api.Query{MinMod: 13, Limit: 1}, false},
		{api.Query{MaxMod: 2, Limit: 1}, false}, {api.Query{MaxMod: 4, Limit: 1}, true}, {api.Query{MaxCreate: 1, Limit: 1}, false},
		{api.Query{Limit: 5, Keys: true}, true}, {api.Query{Limit: 5, Desc: true}, true}, {api.Query{Limit: 6, Keys: true, Desc: true}, false},
		{api.Query{Limit: 5, Count: true}, false}, {api.Query{Limit: 1, Count: true, Keys: true}, false},
	} {
		if got := mustSift(t, "more", c.q, l); got.More != c.more {
			t.Fatalf("Sift(%+v): More is %v", c.q, got.More)
		}
	}
}

// TestKeyAndEndSayNothing: P14.1, what is handed in is sifted, be it in the query's range, at its revision, or not.
func TestKeyAndEndSayNothing(t *testing.T) {
	l := many(5)
	for by := range 5 {
		want := sift.Sift(api.Query{Sort: by, Limit: 3}, l)
		for _, key := range []string{"", "key000002", "zzz"} {
			for _, end := range []string{"", "\x00", "key000003", "a"} {
				for _, at := range []int64{least, -1, 0, 2, greatest} {
					q := api.Query{Key: []byte(key), End: []byte(end), At: at, Sort: by, Limit: 3}
					if got := mustSift(t, "any range", q, l); !resultsAlike(got, want) {
						t.Fatalf("Sift(%+v): %v; want %v", q, got, want)
					}
				}
			}
		}
	}
	if got := sift.Sift(api.Query{}, l); !slices.IsSorted(keysOf(got.KVs)) {
		t.Fatal("not by keys")
	}
}
