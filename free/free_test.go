package free_test

import (
	"math"
	"slices"
	"testing"

	"terrier/api"
	"terrier/free"
)

// made is a list of so many pages with these spare ones.
func made(t *testing.T, size int, ids ...int) *free.List {
	t.Helper()
	l, e := free.New(size, ids...)
	if l == nil || e != api.OK {
		t.Fatalf("New(%d, %v): %v, %d", size, ids, l, e)
	}
	return l
}

// mustRefuse asks that there is no such list.
func mustRefuse(t *testing.T, want api.Errno, size int, ids ...int) {
	t.Helper()
	if l, e := free.New(size, ids...); l != nil || e != want {
		t.Fatalf("New(%d, %v): %v, %d; want %d", size, ids, l, e, want)
	}
}

// mustHave asks that just these are spare, and just these held, both rising.
func mustHave(t *testing.T, l *free.List, spare, held []int) {
	t.Helper()
	if got := l.Spare(); !slices.Equal(got, spare) {
		t.Fatalf("Spare: %v; want %v", got, spare)
	}
	if got := l.Held(); !slices.Equal(got, held) {
		t.Fatalf("Held: %v; want %v", got, held)
	}
	if got := l.Room(); got != len(spare) {
		t.Fatalf("Room: %d; want %d", got, len(spare))
	}
}

// mustTake asks that these are taken, one behind the other.
func mustTake(t *testing.T, l *free.List, want ...int) {
	t.Helper()
	for _, id := range want {
		if got, e := l.Take(); got != id || e != api.OK {
			t.Fatalf("Take: %d, %d; want %d", got, e, id)
		}
	}
}

// mustBeEmpty asks that there is nothing to take.
func mustBeEmpty(t *testing.T, l *free.List) {
	t.Helper()
	if got, e := l.Take(); got != 0 || e != api.ErrNoSpace {
		t.Fatalf("Take of nothing: %d, %d", got, e)
	}
}

// mustBe asks for this error of an act.
func mustBe(t *testing.T, what string, got, want api.Errno) {
	t.Helper()
	if got != want {
		t.Fatalf("%s: %d; want %d", what, got, want)
	}
}

// upTo are the numbers from 2 to size - 1.
func upTo(size int) []int {
	var ids []int
	for id := 2; id < size; id++ {
		ids = append(ids, id)
	}
	return ids
}

// wrongIDs are numbers that can't be spare on a disk of so many pages.
func wrongIDs(size int) []int {
	return []int{math.MinInt, math.MinInt32, -size, -2, -1, 0, 1, size, size + 1, 2 * size, api.MaxPages, 1<<32 + 2, math.MaxInt}
}

// sizes are some that a disk may have.
func sizes() []int { return []int{8, 9, 60, 1023, 1024} }

// wrongSizes are some that none has.
func wrongSizes() []int {
	return []int{math.MinInt, -1024, -8, -1, 0, 1, 2, 7, 1025, 1026, 1<<32 + 8, math.MaxInt}
}

// TestExample: the chapter's.
func TestExample(t *testing.T) {
	l := made(t, 8, 5, 3)
	mustHave(t, l, []int{3, 5}, nil)
	mustTake(t, l, 3)
	mustBe(t, "Hold(3)", l.Hold(3), api.OK)
	mustHave(t, l, []int{5}, []int{3})
	mustTake(t, l, 5)
	mustBeEmpty(t, l)
	mustHave(t, l, nil, []int{3})
	l.Settle()
	mustHave(t, l, []int{3}, nil)
	mustTake(t, l, 3)
	mustBeEmpty(t, l)
	mustHave(t, l, nil, nil)
}

// TestSize: P6.1, how many pages a disk may have, whatever numbers stand beside it.
func TestSize(t *testing.T) {
	for _, size := range wrongSizes() {
		mustRefuse(t, api.ErrArg, size)
		mustRefuse(t, api.ErrArg, size, 3, 5)
		mustRefuse(t, api.ErrArg, size, 3, 3)
		for _, id := range wrongIDs(size) {
			mustRefuse(t, api.ErrArg, size, id)
			mustRefuse(t, api.ErrArg, size, 3, id, 3)
		}
	}
	for _, size := range sizes() {
		mustHave(t, made(t, size), nil, nil)
		mustHave(t, made(t, size, []int{}...), nil, nil)
		mustHave(t, made(t, size, 5, 3), []int{3, 5}, nil)
		mustBeEmpty(t, made(t, size))
	}
}

// TestBounds: P6.1, which numbers a list may be made with, wherever they stand.
func TestBounds(t *testing.T) {
	for _, size := range sizes() {
		mustHave(t, made(t, size, 2), []int{2}, nil)
		mustHave(t, made(t, size, size-1), []int{size - 1}, nil)
		mustHave(t, made(t, size, size-1, 2), []int{2, size - 1}, nil)
		for _, id := range wrongIDs(size) {
			mustRefuse(t, api.ErrRange, size, id)
			mustRefuse(t, api.ErrRange, size, id, 4, 3)
			mustRefuse(t, api.ErrRange, size, 4, id, 3)
			mustRefuse(t, api.ErrRange, size, 4, 3, id)
		}
	}
}

// TestTwice: P6.1, a number that stands there twice, which is asked when all are in bounds.
func TestTwice(t *testing.T) {
	for _, size := range sizes() {
		last := size - 1
		for _, ids := range [][]int{
			{2, 2}, {last, last}, {2, 2, last}, {2, last, 2}, {last, 2, 2}, {2, last, last}, {last, 2, last}, {3, 3, 3}, {4, 3, 4, 3}, {2, 3, 4, 5, 6, 7, 2}, {7, 6, 5, 4, 3, 2, 7},
		} {
			mustRefuse(t, api.ErrExist, size, ids...)
			for _, wrong := range []int{math.MinInt, -1, 0, 1, size, size + 1, math.MaxInt} {
				mustRefuse(t, api.ErrRange, size, append(slices.Clone(ids), wrong)...)
				mustRefuse(t, api.ErrRange, size, append([]int{wrong}, ids...)...)
				mustRefuse(t, api.ErrRange, size, append([]int{wrong, wrong}, ids...)...)
				mustRefuse(t, api.ErrRange, size, slices.Insert(slices.Clone(ids), 1, wrong)...)
			}
		}
		for _, id := range upTo(size) { // beside every number of the disk
			mustRefuse(t, api.ErrExist, size, append(upTo(size), id)...)
			mustRefuse(t, api.ErrExist, size, append([]int{id}, upTo(size)...)...)
		}
		mustRefuse(t, api.ErrExist, size, slices.Repeat([]int{3}, 5000)...)
		mustRefuse(t, api.ErrRange, size, append(slices.Repeat([]int{3}, 5000), size)...)
	}
}

// TestEveryNumber: P6.1 and P6.2, every number of the disk is spare, and taken from the least to the greatest.
func TestEveryNumber(t *testing.T) {
	for _, size := range sizes() {
		rising := upTo(size)
		falling := slices.Clone(rising)
		slices.Reverse(falling)
		middle := slices.Concat(rising[size/2:], rising[:size/2])
		for _, ids := range [][]int{rising, falling, middle} {
			l := made(t, size, ids...)
			mustHave(t, l, rising, nil)
			for i, id := range rising {
				mustTake(t, l, id)
				mustHave(t, l, rising[i+1:], nil)
			}
			mustBeEmpty(t, l)
			mustBeEmpty(t, l)
		}
	}
}

// TestTakeAgain: P6.2, behind a Give or a Settle there is something to take again, from the least on.
func TestTakeAgain(t *testing.T) {
	l := made(t, 8, 7, 2)
	mustTake(t, l, 2, 7)
	mustBeEmpty(t, l)
	mustBe(t, "Give(4)", l.Give(4), api.OK)
	mustBe(t, "Give(2)", l.Give(2), api.OK)
	mustHave(t, l, []int{2, 4}, nil)
	mustTake(t, l, 2)
	mustBe(t, "Give(3)", l.Give(3), api.OK)
	mustBe(t, "Hold(2)", l.Hold(2), api.OK)
	mustBe(t, "Hold(7)", l.Hold(7), api.OK)
	mustHave(t, l, []int{3, 4}, []int{2, 7})
	mustTake(t, l, 3)
	l.Settle()
	mustHave(t, l, []int{2, 4, 7}, nil)
	mustTake(t, l, 2, 4, 7)
	mustBeEmpty(t, l)
	mustBe(t, "Give(7)", l.Give(7), api.OK)
	mustTake(t, l, 7)
	mustBeEmpty(t, l)
}

// TestGiveAndHold: P6.2, of a number that is spare, held, neither, out of bounds; an error changes nothing.
func TestGiveAndHold(t *testing.T) {
	acts := []struct {
		name string
		do   func(l *free.List, id int) api.Errno
	}{{"Give", (*free.List).Give}, {"Hold", (*free.List).Hold}}
	for _, size := range sizes() {
		l := made(t, size, 2, size-1, 4)
		mustBe(t, "Hold(3)", l.Hold(3), api.OK)
		mustBe(t, "Hold(6)", l.Hold(6), api.OK)
		spare, held := l.Spare(), l.Held()
		mustHave(t, l, []int{2, 4, size - 1}, []int{3, 6})
		for _, act := range acts {
			for _, id := range slices.Concat(spare, held) {
				mustBe(t, act.name+" of what there is", act.do(l, id), api.ErrExist)
				mustHave(t, l, spare, held)
			}
			for _, id := range wrongIDs(size) {
				mustBe(t, act.name+" of what can't be", act.do(l, id), api.ErrRange)
				mustHave(t, l, spare, held)
			}
		}
		mustBe(t, "Give(5)", l.Give(5), api.OK)
		mustHave(t, l, []int{2, 4, 5, size - 1}, []int{3, 6})
		mustTake(t, l, 2)
		mustBe(t, "Hold(2)", l.Hold(2), api.OK)
		mustHave(t, l, []int{4, 5, size - 1}, []int{2, 3, 6})
		mustBe(t, "Give(2)", l.Give(2), api.ErrExist)
		mustHave(t, l, []int{4, 5, size - 1}, []int{2, 3, 6})
	}
}

// TestFirstAndLast: P6.2, the least and the greatest number may be given and held.
func TestFirstAndLast(t *testing.T) {
	for _, size := range sizes() {
		l := made(t, size)
		mustBe(t, "Give of the last", l.Give(size-1), api.OK)
		mustBe(t, "Hold of the first", l.Hold(2), api.OK)
		mustHave(t, l, []int{size - 1}, []int{2})
		l.Settle()
		mustTake(t, l, 2, size-1)
		mustBe(t, "Give of the first", l.Give(2), api.OK)
		mustBe(t, "Hold of the last", l.Hold(size-1), api.OK)
		mustHave(t, l, []int{2}, []int{size - 1})
		l.Settle()
		mustHave(t, l, []int{2, size - 1}, nil)
	}
}

// TestHeldIsNotTaken: P6.3, a held number is never taken ahead of Settle, be it above or below the spare ones.
func TestHeldIsNotTaken(t *testing.T) {
	for _, held := range upTo(8) {
		l := made(t, 8)
		mustBe(t, "Hold", l.Hold(held), api.OK)
		mustBeEmpty(t, l)
		for range 3 {
			for _, id := range upTo(8) {
				if id != held {
					mustBe(t, "Give", l.Give(id), api.OK)
				}
			}
			for range 5 {
				if id, e := l.Take(); e != api.OK || id == held {
					t.Fatalf("Take beside the held %d: %d, %d", held, id, e)
				}
			}
			mustBeEmpty(t, l)
			mustHave(t, l, nil, []int{held})
		}
		l.Settle()
		mustTake(t, l, held)
		mustBeEmpty(t, l)
	}
}

// TestSettle: P6.2, of many, of none, and twice; what is spare stays.
func TestSettle(t *testing.T) {
	l := made(t, 8)
	l.Settle()
	mustHave(t, l, nil, nil)
	mustBeEmpty(t, l)
	l = made(t, 8, 3)
	l.Settle()
	mustHave(t, l, []int{3}, nil)
	for _, id := range []int{7, 2, 4} {
		mustBe(t, "Hold", l.Hold(id), api.OK)
	}
	mustHave(t, l, []int{3}, []int{2, 4, 7})
	l.Settle()
	mustHave(t, l, []int{2, 3, 4, 7}, nil)
	l.Settle()
	mustHave(t, l, []int{2, 3, 4, 7}, nil)
	mustTake(t, l, 2)
	l.Settle() // what was held once isn't any more
	mustHave(t, l, []int{3, 4, 7}, nil)
	mustBe(t, "Hold(2)", l.Hold(2), api.OK)
	mustBe(t, "Give(7)", l.Give(7), api.ErrExist)
	l.Settle()
	mustHave(t, l, []int{2, 3, 4, 7}, nil)
	for _, id := range []int{2, 3, 4, 7} { // spare it is, and nothing else
		mustBe(t, "Hold of a spare one", l.Hold(id), api.ErrExist)
		mustBe(t, "Give of a spare one", l.Give(id), api.ErrExist)
	}
}

// TestSettleAll: P6.2, every number of a disk held, and settled.
func TestSettleAll(t *testing.T) {
	for _, size := range sizes() {
		l := made(t, size)
		for i := range size - 2 {
			mustBe(t, "Hold", l.Hold(size-1-i), api.OK)
		}
		mustHave(t, l, nil, upTo(size))
		mustBeEmpty(t, l)
		l.Settle()
		mustHave(t, l, upTo(size), nil)
		mustTake(t, l, upTo(size)...)
		mustBeEmpty(t, l)
	}
}

// TestNil: P6.2, a list that isn't there.
func TestNil(t *testing.T) {
	var l *free.List
	for range 2 {
		if id, e := l.Take(); id != 0 || e != api.ErrArg {
			t.Errorf("Take of nil: %d, %d", id, e)
		}
		for _, id := range append(wrongIDs(8), 2, 3, 7) {
			mustBe(t, "Give of nil", l.Give(id), api.ErrArg)
			mustBe(t, "Hold of nil", l.Hold(id), api.ErrArg)
		}
		l.Settle()
		if l.Room() != 0 || len(l.Spare()) != 0 || len(l.Held()) != 0 || l.Copy() != nil {
			t.Error("nil:", l.Room(), l.Spare(), l.Held(), l.Copy())
		}
	}
}
