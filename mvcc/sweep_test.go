package mvcc_test

import (
	"fmt"
	"math"
	"testing"

	"terrier/api"
)

// TestCompact: P15.4, at, below, above the floor and above the revision, in an open write.
func TestCompact(t *testing.T) {
	w := rich(t)
	for _, at := range []int64{least, -1, 0, 14, 15, maxRev, maxRev + 1, greatest, 3, 3, 2, 1, 0, -1, 4, 14, 9, 8, 13, 13, 12, 14} {
		w.compact(t, at)
		w.mustTell(t, fmt.Sprintf("behind Compact(%d)", at))
	}
	w.begin(t)
	w.compact(t, 14)
	w.compact(t, 13)
	w.compact(t, 99)
	w.put(t, "a", "1", 0)
	w.compact(t, 14)
	w.mustTell(t, "in a write")
	w.end(t)
	w.compact(t, 14)
	w.mustTell(t, "behind the write")
	e := twinOf(t, 60)
	e.compact(t, 0)
	e.compact(t, 1)
	e.mustTell(t, "an empty store")
}

// TestCompactInAWrite: P15.4, ErrArg ahead of the others.
func TestCompactInAWrite(t *testing.T) {
	w := example(t)
	w.begin(t)
	for _, at := range []int64{least, 0, 1, 3, 4, greatest} {
		mustBe(t, "Compact in a write", w.s.Compact(at), api.ErrArg)
	}
	w.mustTell(t, "in a write")
}

// TestSweep: P15.4, with each floor, by each number, again and again till there is no more: what it takes, in order, and that all tell the same behind it.
func TestSweep(t *testing.T) {
	for floor := range int64(14) {
		for _, n := range []int{1, 2, 3, 5, 100, math.MaxInt} {
			w := rich(t)
			if floor > 0 {
				w.compact(t, floor)
			}
			for again := 0; ; again++ {
				none := w.sweep(t, n)
				w.mustTell(t, fmt.Sprintf("the floor %d, swept by %d", floor, n))
				if none {
					break
				}
				if again > 30 {
					t.Fatal("it never ends")
				}
			}
			w.sweep(t, n) // none, and no more
			w.sweep(t, math.MaxInt)
			w.mustTell(t, "swept")
			w.commit(t)
			w.reopen(t)
			w.mustTell(t, "opened again")
			w.sweep(t, n)
		}
	}
}

// TestSweepOpened: P15.4, P15.6, opened again behind each sweep of one change.
func TestSweepOpened(t *testing.T) {
	for floor := int64(1); floor < 14; floor++ {
		w := rich(t)
		w.compact(t, floor)
		for none := false; !none; {
			none = w.sweep(t, 1)
			w.commit(t)
			w.reopen(t)
			w.mustTell(t, fmt.Sprintf("the floor %d, opened", floor))
		}
		w.puts(t, "a", "on")
		w.puts(t, "b", "on")
		w.puts(t, "zz", "on")
		w.mustTell(t, "and on")
	}
}

// TestSweepBetween: P15.4, floors that rise between sweeps that aren't at their end: what is told no more then may be ahead of what was taken.
func TestSweepBetween(t *testing.T) {
	for step := int64(1); step < 6; step++ {
		for n := 1; n < 5; n++ {
			w := rich(t)
			for floor := step; floor <= 13; floor += step {
				w.compact(t, floor)
				w.sweep(t, n)
				w.mustTell(t, fmt.Sprintf("the floor %d, swept by %d", floor, n))
				w.s = open(t, w.s.Base())
				w.mustTell(t, "opened in place")
			}
			for !w.sweep(t, n) {
			}
			w.mustTell(t, "swept")
		}
	}
}

// TestSweepBehind: P15.4, writes behind a sweep, and what they make needless.
func TestSweepBehind(t *testing.T) {
	w := twinOf(t, 100)
	for i := range 30 {
		w.puts(t, "a", text(i, 30))
		w.puts(t, "b", text(i, 3))
		w.dels(t, "b", "")
		w.compact(t, w.now.rev-1)
		w.sweep(t, 3)
		w.mustTell(t, "on and on")
	}
	for !w.sweep(t, 1) {
	}
	if got := len(w.now.rows()); got != 3 {
		t.Fatalf("%d changes stand; want a's, b's and its end", got)
	}
}

// TestSweepWrong: P15.4, of less than one, in an open write.
func TestSweepWrong(t *testing.T) {
	w := rich(t)
	w.compact(t, 13)
	for _, n := range []int{0, -1, math.MinInt} {
		w.sweepWrong(t, n)
	}
	w.sweep(t, 2)
	w.begin(t)
	for _, n := range []int{0, 1, 5, math.MaxInt} {
		w.sweepWrong(t, n)
	}
	w.put(t, "a", "1", 0)
	w.sweepWrong(t, 1)
	w.end(t)
	w.mustTell(t, "behind the write")
	w.sweep(t, 2)
	e := twinOf(t, 60)
	e.sweepWrong(t, 0)
	e.sweep(t, 1)
	e.mustTell(t, "an empty store")
	e.begin(t)
	e.sweepWrong(t, 1)
}

// sweepWrong asks for ErrArg of a Sweep, and nothing beside it.
func (w *twin) sweepWrong(t *testing.T, n int) {
	t.Helper()
	if took, none, e := w.s.Sweep(n); took != 0 || none || e != api.ErrArg {
		t.Fatalf("Sweep(%d): %d, %v, %d; want ErrArg", n, took, none, e)
	}
	w.mustTell(t, "behind a wrong Sweep")
}

// TestSweepNothing: P15.4, where nothing was compacted, or nothing is told no more, nothing is taken.
func TestSweepNothing(t *testing.T) {
	w := twinOf(t, 60)
	w.sweep(t, 1)
	w.puts(t, "a", "1")
	w.puts(t, "b", "1")
	w.sweep(t, 1)
	w.compact(t, 2)
	w.sweep(t, 1)
	w.mustTell(t, "nothing was swept")
	w.puts(t, "a", "2")
	w.sweep(t, 1)
	w.mustTell(t, "nothing was swept, still")
	w.compact(t, 3)
	if took, none, e := w.s.Sweep(1); took != 1 || !none || e != api.OK {
		t.Fatalf("Sweep of the only one: %d, %v, %d; want 1, true", took, none, e)
	}
}

// TestSweepTombs: P15.4, a store whose keys are all gone has no change left.
func TestSweepTombs(t *testing.T) {
	w := twinOf(t, 100)
	for i := range 5 {
		w.puts(t, fmt.Sprint("k", i), text(i, 200))
	}
	w.dels(t, "", all)
	w.compact(t, 6)
	w.sweep(t, 100)
	if rows, e := w.s.Base().Walk("key", nil, nil, 0); e != api.OK || len(rows) != 0 {
		t.Fatalf("%d changes stand, %d", len(rows), e)
	}
	w.commit(t)
	w.reopen(t)
	w.mustTell(t, "no change of the revision") // it has one, all the same
	w.puts(t, "k1", "anew")
	w.mustTell(t, "anew")
}
