package record_test

import (
	"math"
	"testing"

	"terrier/api"
)

// TestKeyLengths: P13.1, a key has 1 to 64 bytes, of a record and of a tombstone.
func TestKeyLengths(t *testing.T) {
	for n := range 200 {
		x := api.KV{Key: row(n), Value: []byte("v"), Create: 1, Mod: 2, Version: 1}
		mustBe(t, "a key's length", x, n >= 1 && n <= 64)
		if n >= 1 && n <= 64 {
			mustTomb(t, "a key's length", row(n))
		} else {
			mustNoTomb(t, "a key's length", row(n))
			mustFail(t, "a key's length", plainTomb(row(n)))
		}
	}
	for _, n := range []int{256, 257, 320, 1024, 65535} {
		mustBe(t, "a long key", api.KV{Key: row(n), Create: 1, Mod: 1, Version: 1}, false)
		mustNoTomb(t, "a long key", row(n))
		mustFail(t, "a long key", plainTomb(row(n)))
	}
	for _, n := range []int{65536, 65537, 65600, 1 << 20} { // whose lengths in two bytes are others
		mustWrong(t, "a longer key", api.KV{Key: row(n), Create: 1, Mod: 1, Version: 1})
		mustNoTomb(t, "a longer key", row(n))
	}
	for _, key := range [][]byte{nil, {}} {
		mustBe(t, "no key", api.KV{Key: key, Value: []byte("v"), Create: 1, Mod: 1, Version: 1}, false)
		mustNoTomb(t, "no key", key)
	}
}

// TestValueLengths: P13.1, a value has at most 1,024 bytes.
func TestValueLengths(t *testing.T) {
	for n := range 1200 {
		mustBe(t, "a value's length", api.KV{Key: row(1 + n%64), Value: row(n), Create: 1, Mod: 2, Version: 1, Lease: 3}, n <= 1024)
	}
	for _, n := range []int{1280, 2048, 4096, 65535} {
		mustBe(t, "a long value", api.KV{Key: row(5), Value: row(n), Create: 1, Mod: 1, Version: 1}, false)
	}
	for _, n := range []int{65536, 65537, 66560, 1 << 20} { // whose lengths in two bytes are others
		mustWrong(t, "a longer value", api.KV{Key: row(5), Value: row(n), Create: 1, Mod: 1, Version: 1})
	}
	for _, value := range [][]byte{nil, {}} {
		mustBe(t, "no value", api.KV{Key: row(5), Value: value, Create: 1, Mod: 1, Version: 1}, true)
		mustBe(t, "no key and no value", api.KV{Value: value, Create: 1, Mod: 1, Version: 1}, false)
	}
}

// TestNumbersByHand: P13.1, each number at its ends, the others being right.
func TestNumbersByHand(t *testing.T) {
	least, greatest := int64(math.MinInt64), int64(math.MaxInt64)
	for _, c := range []struct {
		what                        string
		create, mod, version, lease int64
		right                       bool
	}{
		{"the least", 1, 1, 1, 0, true},
		{"the greatest", maxRev, maxRev, maxRev, maxRev, true},
		{"all zero", 0, 0, 0, 0, false},
		{"Create 0", 0, 1, 1, 0, false},
		{"Create below 0", -1, 1, 1, 0, false},
		{"Create far below 0", least, 1, 1, 0, false},
		{"Create above MaxRev", maxRev + 1, maxRev, 1, 0, false},
		{"Create and Mod above MaxRev", maxRev + 1, maxRev + 1, 1, 0, false},
		{"Create the greatest number", greatest, maxRev, 1, 0, false},
		{"Create and Mod the greatest number", greatest, greatest, 1, 0, false},
		{"Create is Mod", 5, 5, 1, 0, true},
		{"Create one below Mod", 4, 5, 1, 0, true},
		{"Create one above Mod", 6, 5, 1, 0, false},
		{"Create one above Mod, at the end", maxRev, maxRev - 1, 1, 0, false},
		{"Create far below Mod", 1, maxRev, 1, 0, true},
		{"Mod 0", 1, 0, 1, 0, false},
		{"Create and Mod 0", 0, 0, 1, 0, false},
		{"Mod below 0", 1, -1, 1, 0, false},
		{"Create and Mod below 0", -2, -1, 1, 0, false},
		{"Mod far below 0", 1, least, 1, 0, false},
		{"Mod above MaxRev", 1, maxRev + 1, 1, 0, false},
		{"Mod the greatest number", 1, greatest, 1, 0, false},
		{"Version 0", 1, 1, 0, 0, false},
		{"Version below 0", 1, 1, -1, 0, false},
		{"Version far below 0", 1, 1, least, 0, false},
		{"Version MaxRev", 1, 1, maxRev, 0, true},
		{"Version above MaxRev", 1, 1, maxRev + 1, 0, false},
		{"Version the greatest number", 1, 1, greatest, 0, false},
		{"Version above Mod", 1, 2, 3, 0, true},
		{"Version below Create", 5, 9, 2, 0, true},
		{"Lease 1", 1, 1, 1, 1, true},
		{"Lease below 0", 1, 1, 1, -1, false},
		{"Lease far below 0", 1, 1, 1, least, false},
		{"Lease MaxRev", 1, 1, 1, maxRev, true},
		{"Lease above MaxRev", 1, 1, 1, maxRev + 1, false},
		{"Lease the greatest number", 1, 1, 1, greatest, false},
	} {
		mustBe(t, c.what, kv("a", "v", c.create, c.mod, c.version, c.lease), c.right)
		mustBe(t, c.what+", no value", kv("a", "", c.create, c.mod, c.version, c.lease), c.right)
		mustBe(t, c.what+", no key", kv("", "v", c.create, c.mod, c.version, c.lease), false)
	}
}

// TestNumbers: P13.1, all pairs of all sorts of numbers, at each two of the four places.
func TestNumbers(t *testing.T) {
	nums := numbers()
	for _, start := range []api.KV{kv("a", "v", 1, 1, 1, 0), kv("ab", "", 3, maxRev, maxRev, maxRev)} {
		for i := range 4 {
			for j := range i {
				for _, n := range nums {
					for _, m := range nums {
						x := start
						*numberOf(&x, i), *numberOf(&x, j) = n, m
						mustBe(t, "numbers", x, isRight(x))
					}
				}
			}
		}
	}
}

// numberOf is where one of a record's four numbers stands.
func numberOf(x *api.KV, i int) *int64 {
	return [4]*int64{&x.Create, &x.Mod, &x.Version, &x.Lease}[i]
}

// TestCreateAndMod: P13.1, Create is at most Mod, wherever they are.
func TestCreateAndMod(t *testing.T) {
	for _, mod := range []int64{1, 2, 255, 256, 1 << 32, maxRev - 1, maxRev} {
		for _, off := range []int64{-256, -2, -1, 0, 1, 2, 256} {
			x := kv("a", "v", mod+off, mod, 1, 0)
			mustBe(t, "Create beside Mod", x, off <= 0 && mod+off >= 1)
		}
	}
}

// TestNothing: P13.1, the zero record isn't right, a tombstone's record neither.
func TestNothing(t *testing.T) {
	mustBe(t, "nothing", api.KV{}, false)
	mustBe(t, "a tombstone's", api.KV{Key: []byte("a")}, false)
	mustBe(t, "a tombstone's with its Mod", api.KV{Key: []byte("a"), Mod: 5}, false)
}
