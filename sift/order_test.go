package sift_test

import (
	"fmt"
	"slices"
	"testing"

	"terrier/api"
	"terrier/sift"
)

// TestExample: P14.1, the chapter's example.
func TestExample(t *testing.T) {
	l := []api.KV{{Key: []byte("a"), Version: 3}, {Key: []byte("b"), Version: 1}, {Key: []byte("c"), Version: 3}}
	got := sift.Sift(api.Query{Sort: api.ByVersion, Desc: true, Limit: 2}, l)
	want := api.Result{KVs: []api.KV{{Key: []byte("c"), Version: 3}, {Key: []byte("a"), Version: 3}}, Count: 3, More: true}
	if !resultsAlike(got, want) {
		t.Fatalf("Sift: %v; want %v", got, want)
	}
}

// mustOrder asks for an order ascending and descending, with each limit, however the records are handed in.
func mustOrder(t *testing.T, what string, by int, rising []api.KV) {
	t.Helper()
	keys := keysOf(rising)
	for from := range rising { // each one first, with the others behind it
		handed := append(slices.Clone(rising[from:]), rising[:from]...)
		for _, l := range [][]api.KV{handed, backward(handed)} {
			mustTell(t, what, api.Query{Sort: by}, l, false, keys...)
			mustTell(t, what, api.Query{Sort: by, Desc: true}, l, false, backward(keys)...)
			for limit := 1; limit <= len(keys)+1; limit++ {
				n := min(limit, len(keys))
				mustTell(t, what, api.Query{Sort: by, Limit: int64(limit)}, l, n < len(keys), keys[:n]...)
				mustTell(t, what, api.Query{Sort: by, Limit: int64(limit), Desc: true}, l, n < len(keys), backward(keys)[:n]...)
			}
		}
	}
}

// TestByKey: P14.1, by keys, whatever the rest is; one that begins another one comes ahead of it.
func TestByKey(t *testing.T) {
	var rising []api.KV
	keys := []string{"", "\x00", "\x00\x00", "\x00a", "\x01", "A", "a", "a\x00", "aa", "ab", "b", "ba", "\x7f", "\x80", "\xfe\xff", "\xff", "\xff\x00", "\xff\xff"}
	for i, key := range keys {
		n := int64(len(keys) - i)
		rising = append(rising, kv(key, fmt.Sprint(100+n), n, n, n, n))
	}
	mustOrder(t, "by key", api.ByKey, rising)
	for _, by := range []int{api.ByVersion, api.ByCreate, api.ByMod, api.ByValue} {
		mustOrder(t, "by what falls with the key", by, backward(rising))
	}
}

// TestByNumbers: P14.1, by Version, Create and Mod each, by Key where they are the same, whatever the other parts are.
func TestByNumbers(t *testing.T) {
	rising := []struct {
		key string
		n   int64
	}{
		{"z", least}, {"y", least + 1}, {"m", -maxRev}, {"b", -256}, {"c", -1}, {"d", -1}, {"a", 0}, {"e", 0}, {"x", 0},
		{"w", 1}, {"v", 2}, {"g", 3}, {"ga", 3}, {"h", 3}, {"f", 127}, {"u", 128}, {"t", 255}, {"s", 256}, {"i", 257},
		{"r", 1 << 31}, {"q", 1 << 32}, {"j", 1<<32 + 1}, {"p", maxRev - 1}, {"k", maxRev}, {"o", maxRev + 1}, {"l", greatest}, {"n", greatest},
	}
	part := func(x *api.KV, by int) *int64 { return []*int64{&x.Lease, &x.Version, &x.Create, &x.Mod}[by] }
	for by := api.ByVersion; by <= api.ByMod; by++ {
		var l []api.KV
		for i, c := range rising {
			fall := int64(len(rising) - i)
			x := kv(c.key, fmt.Sprint(100+fall), fall, fall, fall, fall)
			*part(&x, by) = c.n
			l = append(l, x)
		}
		mustOrder(t, "by a number", by, l)
	}
}

// TestByValue: P14.1, by values, empty ones and those that begin another one among them, by Key where they are the same.
func TestByValue(t *testing.T) {
	var rising []api.KV
	for i, c := range [][2]string{
		{"q", ""}, {"r", ""}, {"s", ""}, {"p", "\x00"}, {"b", "\x00\x00"}, {"a", "\x01"}, {"m", "V"}, {"l", "v"}, {"n", "v"}, {"k", "v\x00"},
		{"i", "va"}, {"j", "va"}, {"ja", "va"}, {"h", "w"}, {"g", "\x7f"}, {"f", "\x80"}, {"e", "\xff"}, {"o", "\xff"}, {"d", "\xff\xff"},
	} {
		n := int64(40 - i)
		rising = append(rising, kv(c[0], c[1], n, n, n, n))
	}
	mustOrder(t, "by value", api.ByValue, rising)
	rising[1].Value, rising[2].Value = nil, make([]byte, 0, 9)
	mustOrder(t, "by value, nil among them", api.ByValue, rising)
}

// TestAllTies: P14.1, where all are the same in what Sort names it's the order of the keys.
func TestAllTies(t *testing.T) {
	for by := range 5 {
		var rising []api.KV
		for _, key := range []string{"", "a", "a\x00", "ab", "b", "c", "ca", "\x80", "\xff"} {
			rising = append(rising, kv(key, "v", 1, 2, 3, 4))
		}
		mustOrder(t, "all the same", by, rising)
	}
}

// TestSortsApart: P14.1, each Sort names its own part: of four records each has another one first.
func TestSortsApart(t *testing.T) {
	l := []api.KV{kv("a", "2", 2, 5, 2, 9), kv("b", "4", 4, 6, 1, 8), kv("c", "3", 1, 7, 4, 7), kv("d", "5", 3, 4, 3, 6), kv("e", "1", 3, 6, 2, 5)}
	for by, keys := range [][]string{{"a", "b", "c", "d", "e"}, {"b", "a", "e", "d", "c"}, {"c", "a", "d", "e", "b"}, {"d", "a", "b", "e", "c"}, {"e", "a", "c", "b", "d"}} {
		mustTell(t, "apart", api.Query{Sort: by}, l, false, keys...)
		mustTell(t, "apart", api.Query{Sort: by, Desc: true}, l, false, backward(keys)...)
	}
}

// TestSievedOrder: P14.1, the order is that of those that are kept, and the limit is of these.
func TestSievedOrder(t *testing.T) {
	l := []api.KV{kv("a", "5", 1, 1, 1, 0), kv("b", "4", 1, 2, 2, 0), kv("c", "3", 2, 3, 2, 0), kv("d", "2", 3, 4, 2, 0), kv("e", "1", 5, 5, 1, 0)}
	mustTell(t, "sieved", api.Query{MinMod: 2, MaxMod: 4}, l, false, "b", "c", "d")
	mustTell(t, "sieved", api.Query{MinMod: 2, MaxMod: 4, Limit: 3}, l, false, "b", "c", "d")
	mustTell(t, "sieved", api.Query{MinMod: 2, MaxMod: 4, Limit: 2}, l, true, "b", "c")
	mustTell(t, "sieved", api.Query{MinMod: 2, MaxMod: 4, Limit: 2, Desc: true}, l, true, "d", "c")
	mustTell(t, "sieved", api.Query{MinMod: 2, Sort: api.ByValue, Limit: 1}, l, true, "e")
	mustTell(t, "sieved", api.Query{MinCreate: 2, MaxCreate: 3, Sort: api.ByVersion, Desc: true}, l, false, "d", "c")
	mustTell(t, "sieved", api.Query{MinCreate: 2, MaxMod: 3, Limit: 1}, l, false, "c")
	mustTell(t, "none kept", api.Query{MinMod: 6, Limit: 1}, l, false)
	mustTell(t, "none kept", api.Query{MinMod: 4, MaxMod: 3}, l, false)
}

// TestLikeKeys: R1, records of like keys are answered too, all of them, in an order by what Sort names, and each time the same.
func TestLikeKeys(t *testing.T) {
	var l []api.KV
	for i := range 60 {
		l = append(l, kv("a", fmt.Sprint(i%3), int64(i%2), int64(i%5), int64(i%4), int64(i)))
	}
	for by := range 5 {
		for _, desc := range []bool{false, true} {
			got := sift.Sift(api.Query{Sort: by, Desc: desc}, l)
			if len(got.KVs) != 60 || got.Count != 60 || got.More || !resultsAlike(got, sift.Sift(api.Query{Sort: by, Desc: desc}, l)) {
				t.Fatalf("like keys: %v", got)
			}
			met := map[int64]bool{}
			for i, x := range got.KVs {
				met[x.Lease] = true
				if !alike(x, l[x.Lease]) || i > 0 && (desc && below(by, got.KVs[i-1], x) || !desc && below(by, x, got.KVs[i-1])) {
					t.Fatalf("like keys: %v at %d", got, i)
				}
			}
			if len(met) != 60 {
				t.Fatalf("like keys: some are told twice: %v", got)
			}
		}
	}
}
