package sift_test

import (
	"math/rand"
	"testing"

	"terrier/api"
	"terrier/sift"
)

// shuffled is a row in another order.
func shuffled(r *rand.Rand, l []api.KV) []api.KV {
	out := append([]api.KV{}, l...)
	r.Shuffle(len(out), func(i, j int) { out[i], out[j] = out[j], out[i] })
	return out
}

// mustHold asks of a right query and records of unlike keys all that the chapter says of them.
func mustHold(t *testing.T, r *rand.Rand, q api.Query, l []api.KV) {
	t.Helper()
	got := mustSift(t, "drawn", q, l)
	if got.Count != int64(len(l)) || q.Count && (len(got.KVs) > 0 || got.More) || got.More && int64(len(got.KVs)) != q.Limit {
		t.Fatalf("Sift(%+v, %v): %v", q, l, got)
	}
	if again := sift.Sift(q, shuffled(r, l)); !resultsAlike(again, got) {
		t.Fatalf("Sift(%+v, %v): %v; in another order %v", q, l, got, again)
	}
	mustBeBeginning(t, q, l, got)
	mustTurn(t, q, l)
	mustStay(t, q, got)
}

// mustBeBeginning asks that a limit leaves a beginning of what there is without.
func mustBeBeginning(t *testing.T, q api.Query, l []api.KV, got api.Result) {
	t.Helper()
	q.Limit = 0
	whole := sift.Sift(q, l)
	n := len(got.KVs)
	if n > len(whole.KVs) || !listsAlike(got.KVs, whole.KVs[:n]) || whole.More || got.More != (n < len(whole.KVs)) {
		t.Fatalf("Sift(%+v, %v): %v; of %v", q, l, got, whole)
	}
}

// mustTurn asks that descending is ascending the other way round.
func mustTurn(t *testing.T, q api.Query, l []api.KV) {
	t.Helper()
	q.Limit, q.Desc = 0, false
	rising := sift.Sift(q, l)
	q.Desc = true
	if falling := sift.Sift(q, l); !listsAlike(falling.KVs, backward(rising.KVs)) || falling.Count != rising.Count {
		t.Fatalf("Sift(%+v, %v): %v; ascending %v", q, l, falling, rising)
	}
}

// mustStay asks that to sift what was sifted changes nothing but the count (and that none is left out any more).
func mustStay(t *testing.T, q api.Query, got api.Result) {
	t.Helper()
	if q.Keys && q.Sort == api.ByValue {
		return // the values that gave the order are gone
	}
	again := sift.Sift(q, got.KVs)
	if !listsAlike(again.KVs, got.KVs) || again.Count != int64(len(got.KVs)) || again.More {
		t.Fatalf("Sift(%+v) of %v: %v", q, got, again)
	}
}

// TestDrawn: P14.1 and P14.2, drawn queries and rows of records beside a plain model.
func TestDrawn(t *testing.T) {
	r := rand.New(rand.NewSource(41))
	for range 30000 {
		mustHold(t, r, drawnQuery(r), drawnRecords(r, 20))
	}
	for range 100 {
		l := drawnRecords(r, 300)
		for range 5 {
			mustHold(t, r, drawnQuery(r), l)
		}
	}
}

// TestDrawnWrong: P14.1, of a drawn query one part of which is made wrong nothing is told.
func TestDrawnWrong(t *testing.T) {
	r := rand.New(rand.NewSource(42))
	for range 5000 {
		q, l := drawnQuery(r), drawnRecords(r, 9)
		far := 1 + r.Int63()>>r.Intn(63)
		switch part := r.Intn(8); part {
		case 0:
			q.Sort = int(-far)
		case 1:
			q.Sort = 5 + int(far>>1)
		case 2:
			q.Limit = -far
		case 3:
			q.Limit = 4097 + far>>1
		default:
			*boundOf(&q, part-4) = -far
		}
		if sift.Right(q) || !nothing(sift.Sift(q, l)) {
			t.Fatalf("%+v: %v, %v", q, sift.Right(q), sift.Sift(q, l))
		}
	}
}

// TestEachOrder: P14.1, every row of four records of two keys' bytes and few numbers, handed in in each order.
func TestEachOrder(t *testing.T) {
	orders := permutations(4)
	for pick := range 256 { // which of four each record is in Version, Create, Mod and Value
		var l []api.KV
		for i, key := range []string{"a", "ab", "b", "\xff"} {
			n := int64(pick >> (2 * i) & 3)
			l = append(l, kv(key, []string{"", "v", "va", "w"}[n], n+1, 4-n, n^1, 0))
		}
		for by := range 5 {
			for _, desc := range []bool{false, true} {
				q := api.Query{Sort: by, Desc: desc, Limit: int64(pick % 5)}
				want := plain(q, l)
				for _, order := range orders {
					var handed []api.KV
					for _, i := range order {
						handed = append(handed, l[i])
					}
					if got := sift.Sift(q, handed); !resultsAlike(got, want) {
						t.Fatalf("Sift(%+v, %v): %v; want %v", q, handed, got, want)
					}
				}
			}
		}
	}
}

// permutations are all orders of n things.
func permutations(n int) [][]int {
	if n == 0 {
		return [][]int{nil}
	}
	var out [][]int
	for _, p := range permutations(n - 1) {
		for at := range n {
			one := append([]int{}, p[:at]...)
			out = append(out, append(append(one, n-1), p[at:]...))
		}
	}
	return out
}
