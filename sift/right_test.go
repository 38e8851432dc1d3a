package sift_test

import (
	"testing"

	"terrier/api"
	"terrier/sift"
)

// mustBe asks whether a query is right, and that nothing at all is made of records by one that isn't.
func mustBe(t *testing.T, what string, q api.Query, right bool) {
	t.Helper()
	if got := sift.Right(q); got != right {
		t.Fatalf("%s: Right(%+v): %v; want %v", what, q, got, right)
	}
	some := []api.KV{kv("b", "v", 1, 2, 3, 4), kv("a", "w", 5, 6, 7, 8)}
	for _, l := range [][]api.KV{some, some[:1], {}, nil} {
		for flags := range 8 {
			q.Desc, q.Keys, q.Count = flags&1 != 0, flags&2 != 0, flags&4 != 0
			got := mustSift(t, what, q, l)
			if !right && !nothing(got) || right && got.Count != int64(len(l)) {
				t.Fatalf("%s: Sift(%+v, %v): %v", what, q, l, got)
			}
		}
	}
}

// boundOf is one of a query's four bounds.
func boundOf(q *api.Query, i int) *int64 {
	return []*int64{&q.MinMod, &q.MaxMod, &q.MinCreate, &q.MaxCreate}[i]
}

// sorts are all sorts of Sorts, right and not; the greater ones are right ones in their lowest byte, or two, or four.
func sorts() []int {
	return []int{least, least + 1, -1 << 32, -256, -5, -4, -3, -2, -1, 0, 1, 2, 3, 4, 5, 6, 7, 8, 255, 256, 257, 260, 1 << 16, 1<<16 + 1, 1 << 32, 1<<32 + 4, greatest - 1, greatest}
}

// limits are all sorts of limits.
func limits() []int64 {
	return []int64{least, least + 1, -1 << 32, -4097, -4096, -2, -1, 0, 1, 2, 3, 255, 256, 4095, 4096, 4097, 4098, 8192, 1 << 16, 1 << 32, 1<<32 + 1, maxRev, greatest}
}

// bounds are all sorts of bounds.
func bounds() []int64 {
	return []int64{least, least + 1, -maxRev, -1 << 32, -256, -2, -1, 0, 1, 2, 3, 4097, 1 << 32, maxRev - 1, maxRev, maxRev + 1, greatest - 1, greatest}
}

// TestRightSort: P14.1, Sort is 0 to 4.
func TestRightSort(t *testing.T) {
	mustBe(t, "nothing asked", api.Query{}, true)
	for _, n := range sorts() {
		mustBe(t, "Sort", api.Query{Sort: n}, n >= 0 && n <= 4)
		mustBe(t, "Sort and a limit", api.Query{Sort: n, Limit: 4096, MinMod: 1, MaxMod: maxRev}, n >= 0 && n <= 4)
	}
	for i, n := range []int{api.ByKey, api.ByVersion, api.ByCreate, api.ByMod, api.ByValue} {
		if n != i || !sift.Right(api.Query{Sort: n}) {
			t.Fatalf("Sort %d is %d", i, n)
		}
	}
}

// TestRightLimit: P14.1, Limit is 0 to 4,096.
func TestRightLimit(t *testing.T) {
	for _, n := range limits() {
		for by := range 5 {
			mustBe(t, "Limit", api.Query{Sort: by, Limit: n}, n >= 0 && n <= 4096)
		}
	}
}

// TestRightBounds: P14.1, no bound is below 0, whatever the others are; each may be any other number.
func TestRightBounds(t *testing.T) {
	for _, rest := range []int64{0, 1, maxRev, greatest} {
		for i := range 4 {
			for _, n := range bounds() {
				var q api.Query
				for j := range 4 {
					*boundOf(&q, j) = rest
				}
				*boundOf(&q, i) = n
				mustBe(t, "a bound", q, n >= 0)
			}
		}
	}
	mustBe(t, "the greater one below the less one", api.Query{MinMod: 9, MaxMod: 1, MinCreate: 7, MaxCreate: 2}, true)
}

// TestRightTogether: P14.1, all pairs of what may be wrong.
func TestRightTogether(t *testing.T) {
	for _, by := range []int{-1, 0, 4, 5} {
		for _, limit := range []int64{-1, 0, 4096, 4097} {
			for i := range 4 {
				for j := range i {
					for _, n := range []int64{-1, 0, 1} {
						for _, m := range []int64{-1, 0, 1} {
							q := api.Query{Sort: by, Limit: limit}
							*boundOf(&q, i), *boundOf(&q, j) = n, m
							mustBe(t, "together", q, isRight(q))
						}
					}
				}
			}
		}
	}
}

// TestRightOfTheRest: P14.1, no other part of a query makes it wrong, nor right.
func TestRightOfTheRest(t *testing.T) {
	long := make([]byte, 70000)
	for _, key := range [][]byte{nil, {}, {0}, []byte("key"), long} {
		for _, end := range [][]byte{nil, {}, {0}, []byte("a"), long} {
			for _, at := range []int64{least, -1, 0, 1, maxRev + 1, greatest} {
				mustBe(t, "Key, End and At", api.Query{Key: key, End: end, At: at}, true)
				mustBe(t, "Key, End and At", api.Query{Key: key, End: end, At: at, Sort: 5}, false)
			}
		}
	}
}
