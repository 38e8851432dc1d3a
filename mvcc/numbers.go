package mvcc

import (
	"terrier/api"
	"terrier/octets"
)

// The names under which the numbers stand.
const (
	revName   = "rev"
	floorName = "floor"
	doneName  = "done"
)

// numSize is how many bytes a number has.
const numSize = 8

// numbers are those that stand in the bucket meta; 0: nothing stands there.
type numbers struct {
	rev   int64 // of the last write
	floor int64 // what it was compacted to
	done  int64 // the floor to which all was swept
}

// right: may a store have them?
func (n *numbers) right() bool {
	return 0 <= n.done && n.done <= n.floor && n.floor <= n.rev && n.rev <= api.MaxRev
}

// named: the number of this name; nil: none has it.
func (n *numbers) named(name string) *int64 {
	switch name {
	case revName:
		return &n.rev
	case floorName:
		return &n.floor
	case doneName:
		return &n.done
	}
	return nil
}

// read: what stands under a name; false: it can't be a number. Under another name than these anything may stand.
func (n *numbers) read(name, value []byte) bool {
	to := n.named(string(name))
	if to == nil {
		return true
	}
	x, _ := octets.Get(value, 0, numSize) // 0, if there are too few bytes
	*to = int64(x)                        // below 0, so not right, if it is beyond 63 bits
	return len(value) == numSize
}

// note: a number stands under a name.
func (s *Store) note(name string, n int64) api.Errno {
	return s.base.Put(meta, []byte(name), number(n))
}

// number: one in its bytes. It goes into them, as no number of a store is below 0.
func number(n int64) []byte {
	b, _ := octets.Put(uint64(n), numSize)
	return b
}
