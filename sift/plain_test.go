package sift_test

import (
	"math"
	"math/rand"
	"slices"
	"testing"

	"terrier/api"
	"terrier/sift"
)

const (
	least    = math.MinInt64
	greatest = math.MaxInt64
	maxRev   = 4611686018427387904 // 2^62, as the document says
)

// kv is a record of texts and numbers.
func kv(key, value string, create, mod, version, lease int64) api.KV {
	return api.KV{Key: []byte(key), Value: []byte(value), Create: create, Mod: mod, Version: version, Lease: lease}
}

// alike: are they the same in all, nil and empty rows the same?
func alike(a, b api.KV) bool {
	return string(a.Key) == string(b.Key) && string(a.Value) == string(b.Value) &&
		[4]int64{a.Create, a.Mod, a.Version, a.Lease} == [4]int64{b.Create, b.Mod, b.Version, b.Lease}
}

// listsAlike: are two lists' records the same, one by one?
func listsAlike(a, b []api.KV) bool { return slices.EqualFunc(a, b, alike) }

// resultsAlike: are two results the same in all?
func resultsAlike(a, b api.Result) bool {
	return listsAlike(a.KVs, b.KVs) && a.Count == b.Count && a.More == b.More
}

// nothing: is every part of a result zero?
func nothing(x api.Result) bool { return len(x.KVs) == 0 && x.Count == 0 && !x.More }

// isRight is the chapter's words on a right query.
func isRight(q api.Query) bool {
	switch q.Sort {
	case 0, 1, 2, 3, 4:
	default:
		return false
	}
	if q.Limit < 0 || q.Limit > 4096 {
		return false
	}
	for _, n := range []int64{q.MinMod, q.MaxMod, q.MinCreate, q.MaxCreate} {
		if n < 0 {
			return false
		}
	}
	return true
}

// isKept is the chapter's words on the sieve.
func isKept(q api.Query, x api.KV) bool {
	if q.MinMod != 0 && x.Mod < q.MinMod {
		return false
	}
	if q.MaxMod != 0 && x.Mod > q.MaxMod {
		return false
	}
	if q.MinCreate != 0 && x.Create < q.MinCreate {
		return false
	}
	if q.MaxCreate != 0 && x.Create > q.MaxCreate {
		return false
	}
	return true
}

// below is the chapter's words on the order, ascending: does a come ahead of b?
func below(by int, a, b api.KV) bool {
	switch {
	case by == 1 && a.Version != b.Version:
		return a.Version < b.Version
	case by == 2 && a.Create != b.Create:
		return a.Create < b.Create
	case by == 3 && a.Mod != b.Mod:
		return a.Mod < b.Mod
	case by == 4 && string(a.Value) != string(b.Value):
		return string(a.Value) < string(b.Value)
	}
	return string(a.Key) < string(b.Key)
}

// plain is the chapter's words on a result of records of unlike keys: each one's place is how many come ahead of it.
func plain(q api.Query, l []api.KV) api.Result {
	if !isRight(q) {
		return api.Result{}
	}
	all := map[int]api.KV{}
	for _, x := range l {
		if !isKept(q, x) {
			continue
		}
		place := 0
		for _, y := range l {
			if isKept(q, y) && (!q.Desc && below(q.Sort, y, x) || q.Desc && below(q.Sort, x, y)) {
				place++
			}
		}
		if q.Keys {
			x.Value = nil
		}
		all[place] = x
	}
	out := api.Result{Count: int64(len(l))}
	for place := range len(all) {
		switch {
		case q.Count:
		case q.Limit != 0 && int64(place) >= q.Limit:
			out.More = true
		default:
			out.KVs = append(out.KVs, all[place])
		}
	}
	return out
}

// mustSift asks that a query makes of records what the chapter's words make of them.
func mustSift(t *testing.T, what string, q api.Query, l []api.KV) api.Result {
	t.Helper()
	got, want := sift.Sift(q, l), plain(q, l)
	if !resultsAlike(got, want) {
		t.Fatalf("%s: Sift(%+v, %v): %v; want %v", what, q, l, got, want)
	}
	return got
}

// mustTell asks that a query makes of records these keys, in this order, and that it tells whether there are more.
func mustTell(t *testing.T, what string, q api.Query, l []api.KV, more bool, keys ...string) {
	t.Helper()
	got := mustSift(t, what, q, l)
	if told := keysOf(got.KVs); !slices.Equal(told, keys) || got.More != more || got.Count != int64(len(l)) {
		t.Fatalf("%s: Sift(%+v): %q, %v, %d; want %q, %v, %d", what, q, told, got.More, got.Count, keys, more, len(l))
	}
}

// keysOf is records' keys.
func keysOf(l []api.KV) []string {
	out := []string{}
	for _, x := range l {
		out = append(out, string(x.Key))
	}
	return out
}

// backward is a row the other way round.
func backward[T any](l []T) []T {
	out := slices.Clone(l)
	slices.Reverse(out)
	return out
}

// drawnText is a text of few bytes, so that many begin one another.
func drawnText(r *rand.Rand) string {
	b := make([]byte, r.Intn(4))
	for i := range b {
		b[i] = []byte{0, 'a', 'b', 127, 128, 255}[r.Intn(6)]
	}
	return string(b)
}

// drawnNumber is a number near others, at times one far off.
func drawnNumber(r *rand.Rand) int64 {
	if r.Intn(8) == 0 {
		return 1 + r.Int63n(maxRev)>>r.Intn(62)
	}
	return 1 + r.Int63n(6)
}

// drawnRecords are records of unlike keys, in any order.
func drawnRecords(r *rand.Rand, most int) []api.KV {
	var out []api.KV
	met := map[string]bool{}
	for range r.Intn(most + 1) {
		key := drawnText(r)
		if met[key] {
			continue
		}
		met[key] = true
		out = append(out, kv(key, drawnText(r), drawnNumber(r), drawnNumber(r), drawnNumber(r), drawnNumber(r)-1))
	}
	return out
}

// drawnQuery is a right query.
func drawnQuery(r *rand.Rand) api.Query {
	flag := func(of int) bool { return r.Intn(of) == 0 }
	bound := func() int64 {
		if flag(2) {
			return 0
		}
		return drawnNumber(r)
	}
	q := api.Query{Sort: r.Intn(5), Desc: flag(2), Keys: flag(4), Count: flag(8)}
	if flag(2) {
		q.Limit = int64(1 + r.Intn(12))
	}
	if flag(2) {
		q.MinMod, q.MaxMod, q.MinCreate, q.MaxCreate = bound(), bound(), bound(), bound()
	}
	if flag(2) { // what the range asks for says nothing here
		q.Key, q.End, q.At = []byte(drawnText(r)), []byte(drawnText(r)), r.Int63n(9)-4
	}
	return q
}
