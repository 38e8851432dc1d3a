package free

import (
	"cmp"
	"slices"
)

// set is things in order, none of them twice.
type set[T cmp.Ordered] struct{ rising []T }

// has: is it in the set?
func (s *set[T]) has(thing T) bool {
	_, found := slices.BinarySearch(s.rising, thing)
	return found
}

// add: it is in the set; false: it was there already.
func (s *set[T]) add(thing T) bool {
	at, found := slices.BinarySearch(s.rising, thing)
	if !found {
		s.rising = slices.Insert(s.rising, at, thing)
	}
	return !found
}

// takeLeast: the least of them, which is there no more; false: there is none.
func (s *set[T]) takeLeast() (T, bool) {
	if len(s.rising) == 0 {
		var none T
		return none, false
	}
	least := s.rising[0]
	s.rising = slices.Delete(s.rising, 0, 1)
	return least, true
}

// all: they, rising, in memory of their own.
func (s *set[T]) all() []T { return slices.Clone(s.rising) }

// apart: a set of its own with the same in it.
func (s *set[T]) apart() set[T] { return set[T]{s.all()} }
