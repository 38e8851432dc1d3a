package index

import (
	"slices"

	"terrier/gens"
	"terrier/octets"
)

// entry is a key and its history.
type entry struct {
	key     []byte
	history *gens.Gens
}

// against: how its key stands to another one.
func (e entry) against(key []byte) int { return octets.Compare(e.key, key) }

// spent: has it no history left?
func (e entry) spent() bool { return e.history.Empty() }

// place: where a key's entry stands, or would stand, and is it there?
func (x *Index) place(key []byte) (int, bool) {
	if x == nil {
		return 0, false
	}
	return slices.BinarySearchFunc(x.rising, key, entry.against)
}

// within: the entries whose keys are in a range.
func (x *Index) within(key, end []byte) []entry {
	if x == nil {
		return nil
	}
	from, _ := x.place(key)
	to := from
	for to < len(x.rising) && octets.In(x.rising[to].key, key, end) {
		to++
	}
	return x.rising[from:to]
}
