package free_test

import (
	"slices"
	"testing"

	"terrier/api"
	"terrier/free"
)

// spoil writes over numbers, the room behind them too.
func spoil(ids []int) {
	ids = ids[:cap(ids)]
	for i := range ids {
		ids[i] = 6
	}
}

// both is a list with three spare and two held ones.
func both(t *testing.T) *free.List {
	t.Helper()
	l := made(t, 8, 5, 2, 7)
	mustBe(t, "Hold(4)", l.Hold(4), api.OK)
	mustBe(t, "Hold(3)", l.Hold(3), api.OK)
	mustHave(t, l, []int{2, 5, 7}, []int{3, 4})
	return l
}

// TestNumbersAreKept: R4, what New is handed isn't changed, nor is the room behind it; whatever becomes of it, the list is as it was, and whatever becomes of the list, it is.
func TestNumbersAreKept(t *testing.T) {
	for _, order := range [][]int{{2, 3, 5, 7}, {7, 5, 3, 2}, {5, 2, 7, 3}} {
		ids := append(make([]int, 0, 9), order...)
		room := ids[:9]
		copy(room[4:], []int{40, 41, 42, 43, 44})
		was := slices.Clone(room)
		l := made(t, 8, ids...)
		mustBe(t, "Give(4)", l.Give(4), api.OK)
		mustTake(t, l, 2)
		mustBe(t, "Hold(6)", l.Hold(6), api.OK)
		l.Settle()
		if !slices.Equal(room, was) {
			t.Fatalf("New or what came behind it has changed %v into %v", was, room)
		}
		spoil(room)
		mustHave(t, l, []int{3, 4, 5, 6, 7}, nil)
		mustTake(t, l, 3, 4, 5, 6, 7)
		mustBeEmpty(t, l)
	}
}

// TestRefusedNumbersAreKept: R4, beside an error neither.
func TestRefusedNumbersAreKept(t *testing.T) {
	for _, order := range [][]int{{7, 3, 7, 2}, {7, 3, 8, 2}, {7, 7, 1, 2}} {
		ids := append(make([]int, 0, 6), order...)
		was := slices.Clone(ids[:6])
		free.New(8, ids...)
		free.New(7, ids...)
		if !slices.Equal(ids[:6], was) {
			t.Fatalf("New has changed %v into %v", was, ids[:6])
		}
	}
}

// TestAnswersAreNew: R4, what is done to an answer isn't seen in the list, nor in another answer, nor the other way round.
func TestAnswersAreNew(t *testing.T) {
	l := both(t)
	spare, held := l.Spare(), l.Held()
	again, heldAgain := l.Spare(), l.Held()
	spoil(spare)
	spoil(held)
	mustHave(t, l, []int{2, 5, 7}, []int{3, 4})
	mustTake(t, l, 2)
	mustBe(t, "Give(6)", l.Give(6), api.OK)
	l.Settle()
	if !slices.Equal(again, []int{2, 5, 7}) || !slices.Equal(heldAgain, []int{3, 4}) {
		t.Fatalf("what was told has become %v and %v", again, heldAgain)
	}
	mustHave(t, l, []int{3, 4, 5, 6, 7}, nil)
}

// TestAnswersHaveTheirOwnRoom: R4, the room behind an answer is not the list's either.
func TestAnswersHaveTheirOwnRoom(t *testing.T) {
	l := made(t, 1024)
	for i, id := range upTo(1024) {
		act := l.Give
		if i%2 == 0 {
			act = l.Hold
		}
		mustBe(t, "an act", act(id), api.OK)
		spare, held := l.Spare(), l.Held()
		spoil(l.Spare())
		spoil(l.Held())
		mustHave(t, l, spare, held)
	}
}

// TestCopy: P6.2, the same is in it, and what is done to one isn't seen in the other.
func TestCopy(t *testing.T) {
	acts := []func(l *free.List){
		func(l *free.List) { mustTake(t, l, 2) },
		func(l *free.List) { mustTake(t, l, 2, 5, 7) },
		func(l *free.List) { mustBe(t, "Give(6)", l.Give(6), api.OK) },
		func(l *free.List) { mustBe(t, "Hold(6)", l.Hold(6), api.OK) },
		func(l *free.List) { l.Settle() },
		func(l *free.List) {
			l.Settle()
			mustTake(t, l, 2, 3, 4, 5, 7)
			mustBe(t, "Hold(7)", l.Hold(7), api.OK)
			mustBe(t, "Give(6)", l.Give(6), api.OK)
		},
	}
	for _, act := range acts {
		one := both(t)
		two := one.Copy()
		mustHave(t, two, []int{2, 5, 7}, []int{3, 4})
		act(one)
		mustHave(t, two, []int{2, 5, 7}, []int{3, 4})
		spare, held := one.Spare(), one.Held()
		act(two)
		mustHave(t, one, spare, held)
		mustHave(t, two, spare, held)
	}
}

// TestCopiesPart: P6.2, a list and its copy with unlike acts, both of which have room behind what they have.
func TestCopiesPart(t *testing.T) {
	one := both(t)
	for range 3 {
		mustTake(t, one, 2)
		mustBe(t, "Give(2)", one.Give(2), api.OK)
	}
	two := one.Copy()
	mustBe(t, "Give(6)", one.Give(6), api.OK)
	mustTake(t, two, 2)
	mustBe(t, "Hold(6)", two.Hold(6), api.OK)
	mustHave(t, one, []int{2, 5, 6, 7}, []int{3, 4})
	mustHave(t, two, []int{5, 7}, []int{3, 4, 6})
	three := two.Copy()
	two.Settle()
	mustHave(t, one, []int{2, 5, 6, 7}, []int{3, 4})
	mustHave(t, two, []int{3, 4, 5, 6, 7}, nil)
	mustHave(t, three, []int{5, 7}, []int{3, 4, 6})
}

// TestCopyHasItsSize: P6.2, a copy's numbers have the same bounds.
func TestCopyHasItsSize(t *testing.T) {
	for _, size := range sizes() {
		l := made(t, size).Copy()
		mustHave(t, l, nil, nil)
		for _, id := range wrongIDs(size) {
			mustBe(t, "Give on a copy", l.Give(id), api.ErrRange)
			mustBe(t, "Hold on a copy", l.Hold(id), api.ErrRange)
		}
		mustBe(t, "Give of the last on a copy", l.Give(size-1), api.OK)
		mustBe(t, "Hold of the first on a copy", l.Hold(2), api.OK)
		mustHave(t, l, []int{size - 1}, []int{2})
	}
}

// TestAsking: R3 and R5, what only asks changes nothing.
func TestAsking(t *testing.T) {
	l := both(t)
	for range 5 {
		l.Room()
		l.Spare()
		l.Held()
		l.Copy().Settle()
		mustTake(t, l.Copy(), 2, 5, 7)
	}
	mustHave(t, l, []int{2, 5, 7}, []int{3, 4})
	mustTake(t, l, 2, 5, 7)
	mustBeEmpty(t, l)
	mustHave(t, l, nil, []int{3, 4})
}
