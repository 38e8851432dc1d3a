package record_test

import (
	"math"
	"math/rand"
	"testing"

	"terrier/api"
	"terrier/record"
)

// mustSame asks whether two records are the same, both ways round.
func mustSame(t *testing.T, what string, a, b api.KV, want bool) {
	t.Helper()
	if record.Same(a, b) != want || record.Same(b, a) != want {
		t.Fatalf("%s: Same(%v, %v): %v, %v; want %v", what, a, b, record.Same(a, b), record.Same(b, a), want)
	}
}

// others are records that differ from this one in one part each.
func others(x api.KV) []api.KV {
	var out []api.KV
	for i := range 4 {
		for _, change := range []int64{1, -1, 256, 1 << 32, math.MinInt64} {
			y := x
			*numberOf(&y, i) += change
			out = append(out, y)
		}
	}
	for _, b := range unlike(x.Key) {
		y := x
		y.Key = b
		out = append(out, y)
	}
	for _, b := range unlike(x.Value) {
		y := x
		y.Value = b
		out = append(out, y)
	}
	return out
}

// unlike are rows that differ from this one: longer, shorter, in their first or last byte.
func unlike(b []byte) [][]byte {
	out := [][]byte{append([]byte("x"), b...), []byte(string(b) + "\x00"), []byte(string(b) + "x")}
	if len(b) == 0 {
		return out
	}
	first, last := []byte(string(b)), []byte(string(b))
	first[0] ^= 1
	last[len(b)-1] ^= 128
	return append(out, first, last, b[:len(b)-1], nil)
}

// anyRecords are records right and not.
func anyRecords() []api.KV {
	return append(samples(), api.KV{}, api.KV{Key: []byte("a")}, api.KV{Value: []byte("v")},
		kv("", "", -1, -2, -3, -4), kv("a", "b", math.MinInt64, math.MaxInt64, 0, math.MinInt64),
		api.KV{Key: row(65), Value: row(1025), Create: 9, Mod: 8}, api.KV{Key: row(70000), Value: row(70000)})
}

// TestSame: P13.1, of records that differ in one part each, right or not.
func TestSame(t *testing.T) {
	for _, x := range anyRecords() {
		again := api.KV{Key: []byte(string(x.Key)), Value: []byte(string(x.Value)), Create: x.Create, Mod: x.Mod, Version: x.Version, Lease: x.Lease}
		mustSame(t, "itself", x, x, true)
		mustSame(t, "the same", x, again, true)
		for _, y := range others(x) {
			mustSame(t, "another one", x, y, false)
		}
	}
}

// TestSameByPairs: P13.1, of any two records.
func TestSameByPairs(t *testing.T) {
	all := append(anyRecords(), others(kv("a", "v", 1, 2, 3, 4))...)
	for _, a := range all {
		for _, b := range all {
			mustSame(t, "two", a, b, alike(a, b))
		}
	}
}

// TestSameOfParts: P13.1, what is the same in all but where it stands is another record.
func TestSameOfParts(t *testing.T) {
	mustSame(t, "key and value", kv("a", "b", 1, 1, 1, 1), kv("b", "a", 1, 1, 1, 1), false)
	mustSame(t, "a byte from the one to the other", kv("ab", "c", 1, 1, 1, 1), kv("a", "bc", 1, 1, 1, 1), false)
	mustSame(t, "all of it in the one", kv("ab", "", 1, 1, 1, 1), kv("", "ab", 1, 1, 1, 1), false)
	nums := [4]int64{1, 2, 3, 4}
	for i := range nums {
		for j := range i {
			n := nums
			n[i], n[j] = n[j], n[i]
			mustSame(t, "two numbers", kv("a", "b", 1, 2, 3, 4), kv("a", "b", n[0], n[1], n[2], n[3]), false)
		}
	}
}

// TestSameOfNothing: P13.1, nil and empty are the same.
func TestSameOfNothing(t *testing.T) {
	rows := [][]byte{nil, {}, make([]byte, 0, 9)}
	for _, a := range rows {
		for _, b := range rows {
			mustSame(t, "no key", api.KV{Key: a, Mod: 1}, api.KV{Key: b, Mod: 1}, true)
			mustSame(t, "no value", api.KV{Key: []byte("a"), Value: a}, api.KV{Key: []byte("a"), Value: b}, true)
			mustSame(t, "neither", api.KV{Key: a, Value: b}, api.KV{Key: b, Value: a}, true)
			mustSame(t, "a key and none", api.KV{Key: a}, api.KV{Key: []byte{0}}, false)
			mustSame(t, "a value and none", api.KV{Value: a}, api.KV{Value: []byte{0}}, false)
		}
	}
}

// TestTwin: P13.1, it's the same in all, right or not.
func TestTwin(t *testing.T) {
	for _, x := range anyRecords() {
		if twin := record.Twin(x); !alike(twin, x) {
			t.Fatalf("Twin(%v): %v", x, twin)
		}
	}
	rows := [][]byte{nil, {}, make([]byte, 0, 9), []byte("a")}
	for _, key := range rows {
		for _, value := range rows {
			x := api.KV{Key: key, Value: value, Create: 1, Mod: 2, Version: 3, Lease: 4}
			if twin := record.Twin(x); !alike(twin, x) || !record.Same(twin, x) {
				t.Fatalf("Twin(%v): %v", x, twin)
			}
		}
	}
}

// TestUnlike: P13.2, no two unlike records have the same bytes, a tombstone's and a record's neither.
func TestUnlike(t *testing.T) {
	told := map[string]api.KV{}
	add := func(x api.KV) {
		b, e := record.Encode(x)
		other, met := told[string(b)]
		if e != api.OK || met && !alike(other, x) {
			t.Fatalf("%v and %v: % x, %d", x, other, b, e)
		}
		told[string(b)] = x
	}
	for _, x := range samples() {
		add(x)
		for _, y := range others(x) {
			if isRight(y) {
				add(y)
			}
		}
	}
	r := rand.New(rand.NewSource(31))
	text := func(n int) string { return string(row(9)[:n]) }
	for range 50000 { // from few numbers and texts, so that many are near each other
		mod := 1 + r.Int63n(3)
		add(kv(text(1+r.Intn(3)), text(r.Intn(4)), 1+r.Int63n(mod), mod, 1+r.Int63n(3), r.Int63n(3)))
	}
	for n := 1; n <= 64; n++ {
		b, _ := record.Tomb(row(n))
		if other, met := told[string(b)]; met {
			t.Fatalf("a tombstone and %v: % x", other, b)
		}
	}
}
