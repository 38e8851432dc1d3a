package sift_test

import (
	"bytes"
	"slices"
	"testing"

	"terrier/api"
	"terrier/sift"
)

// roomy is a row that has room behind it, in which something stands.
func roomy(text string) []byte {
	return append(append(make([]byte, 0, len(text)+40), text...), "SPARE ROOM"...)[:len(text)]
}

// handed is records whose rows have room behind them, in a list that has room behind it, in which records stand, too.
func handed() []api.KV {
	var all []api.KV
	for i, c := range [][2]string{{"d", "x"}, {"a", "z"}, {"c", ""}, {"e", "y"}, {"b", "x"}, {"spare", "room"}, {"more", "room"}} {
		n := int64(i + 1)
		all = append(all, api.KV{Key: roomy(c[0]), Value: roomy(c[1]), Create: n, Mod: 2 * n, Version: 9 - n, Lease: n % 2})
	}
	return all[:5]
}

// image is all that a list holds, its spare room and its rows' spare room too, in memory of its own.
func image(l []api.KV) []api.KV {
	out := slices.Clone(l[:cap(l)])
	for i, x := range out {
		out[i].Key, out[i].Value = bytes.Clone(x.Key[:cap(x.Key)]), bytes.Clone(x.Value[:cap(x.Value)])
	}
	return out
}

// spoilBytes writes over a row, the room behind it too.
func spoilBytes(b []byte) {
	b = b[:cap(b)]
	for i := range b {
		b[i] += 0x35
	}
}

// spoil writes over a list, its rows and all room behind them.
func spoil(l []api.KV) {
	l = l[:cap(l)]
	for i := range l {
		spoilBytes(l[i].Key)
		spoilBytes(l[i].Value)
		l[i] = kv("spoiled", "spoiled", 7, 7, 7, 7)
	}
}

// queries are queries of all sorts, some of which aren't right.
func queries() []api.Query {
	var out []api.Query
	for by := -1; by <= 5; by++ {
		for flags := range 8 {
			for _, limit := range []int64{0, 1, 3, 5, 9, 4097} {
				for _, from := range []int64{0, 3, 100, -1} {
					q := api.Query{Sort: by, Limit: limit, Desc: flags&1 != 0, Keys: flags&2 != 0, Count: flags&4 != 0, MinMod: from}
					out = append(out, q)
				}
			}
		}
	}
	return out
}

// TestHandedIn: P14.2, nothing of what is handed in is changed: not the list's order, not its records, their rows, nor any spare room.
func TestHandedIn(t *testing.T) {
	for _, q := range queries() {
		l := handed()
		was := image(l)
		q.Key, q.End = roomy("key"), roomy("end")
		asked := q
		key, end := bytes.Clone(q.Key[:cap(q.Key)]), bytes.Clone(q.End[:cap(q.End)])
		sift.Right(q)
		for _, x := range l {
			sift.Keeps(q, x)
		}
		sift.Sift(q, l)
		if !listsAlike(image(l), was) {
			t.Fatalf("Sift(%+v) has changed the records", asked)
		}
		if !bytes.Equal(q.Key[:cap(q.Key)], key) || !bytes.Equal(q.End[:cap(q.End)], end) {
			t.Fatalf("Sift(%+v) has changed the query", asked)
		}
	}
}

// TestNotKept: P14.2, what was told stays as it was, whatever is done to what was handed in, and the next call tells of its own records alone.
func TestNotKept(t *testing.T) {
	for _, q := range queries() {
		l := handed()
		want := plain(q, handed())
		got := sift.Sift(q, l)
		spoil(l)
		if !resultsAlike(got, want) {
			t.Fatalf("Sift(%+v): what was told went with what was handed in: %v; want %v", q, got, want)
		}
		if again := sift.Sift(q, handed()); !resultsAlike(again, want) {
			t.Fatalf("Sift(%+v): %v, then %v", q, got, again)
		}
	}
}

// TestAnswersAreNew: P14.2, what is written into an answer, and into all spare room of it, is seen neither in what was handed in nor in another answer.
func TestAnswersAreNew(t *testing.T) {
	for _, q := range queries() {
		l := handed()
		was, want := image(l), plain(q, handed())
		first, second := sift.Sift(q, l), sift.Sift(q, l)
		spoil(first.KVs)
		if !listsAlike(image(l), was) {
			t.Fatalf("Sift(%+v): the answer shares memory with what was handed in", q)
		}
		if !resultsAlike(second, want) {
			t.Fatalf("Sift(%+v): two answers share memory", q)
		}
		if third := sift.Sift(q, l); !resultsAlike(third, want) {
			t.Fatalf("Sift(%+v): %v, behind what was written into an answer", q, third)
		}
	}
}

// TestRowsAreApart: P14.2, no two rows of an answer share memory, even where those that are handed in do.
func TestRowsAreApart(t *testing.T) {
	shared := roomy("shared")
	l := []api.KV{
		{Key: shared[:1], Value: shared, Mod: 1}, {Key: shared[:2], Value: shared, Mod: 2}, {Key: shared[:3], Value: shared[3:], Mod: 3},
		{Key: shared[:4], Value: shared[:0], Mod: 4}, {Key: shared, Value: shared[1:], Mod: 5}, {Key: shared[:0], Value: shared, Mod: 6},
	}
	for _, q := range queries() {
		want := plain(q, l)
		n := len(want.KVs)
		for i := range 2 * n {
			got := sift.Sift(q, l).KVs
			before := image(got[:n:n])
			row, other := got[i/2].Key, got[i/2].Value
			if i%2 == 1 {
				row, other = other, row
			}
			was := bytes.Clone(other[:cap(other)])
			spoilBytes(row)
			after := image(got[:n:n])
			if !bytes.Equal(other[:cap(other)], was) || !listsAlike(slices.Delete(before, i/2, i/2+1), slices.Delete(after, i/2, i/2+1)) {
				t.Fatalf("Sift(%+v): rows of an answer share memory", q)
			}
		}
		if string(shared) != "shared" || string(shared[:16]) != "sharedSPARE ROOM" {
			t.Fatalf("Sift(%+v) shares memory with what was handed in", q)
		}
	}
}

// TestLeftOut: P14.2, what a limit or the sieve leaves out doesn't stand in the room behind an answer, nor do Values with Keys.
func TestLeftOut(t *testing.T) {
	for _, q := range queries() {
		got := sift.Sift(q, handed()).KVs
		for _, x := range got[len(got):cap(got)] {
			if !alike(x, api.KV{}) {
				t.Fatalf("Sift(%+v): %v stands behind the answer", q, x)
			}
		}
		for _, x := range got {
			if q.Keys && cap(x.Value) != 0 {
				t.Fatalf("Sift(%+v): a value's room stands in the answer: %v", q, x)
			}
		}
	}
}

// TestNoMatterHow: R4, nil and empty rows, and nil and empty lists, are the same.
func TestNoMatterHow(t *testing.T) {
	for _, q := range queries() {
		var want *api.Result
		for _, none := range [][]byte{nil, {}, make([]byte, 0, 9)} {
			l := []api.KV{{Key: []byte("b"), Value: none, Mod: 4}, {Key: none, Value: []byte("v"), Mod: 3}, {Key: []byte("a"), Value: none, Mod: 5}}
			q.Key, q.End = none, none
			got := mustSift(t, "nil and empty", q, l)
			if want == nil {
				want = &got
			}
			if !resultsAlike(got, *want) {
				t.Fatalf("Sift(%+v, %v): %v; want %v", q, l, got, *want)
			}
		}
	}
}
