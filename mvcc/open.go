package mvcc

import (
	"terrier/api"
	"terrier/db"
	"terrier/index"
	"terrier/rev"
)

// Open: the store of a database.
func Open(b *db.DB) (*Store, api.Errno) {
	if b == nil {
		return nil, api.ErrArg
	}
	told, err := b.Walk(meta, nil, nil, 0)
	if err != api.OK {
		return nil, err
	}
	changes, err := b.Walk(keys, nil, nil, 0)
	if err != api.OK {
		return nil, err
	}
	x := opening{index: index.New(), met: map[string]struct{}{}}
	right := true
	for _, pair := range told {
		right = right && x.read(pair.Key, pair.Value)
	}
	right = right && x.right()
	for _, pair := range changes {
		right = right && x.enter(pair.Key, pair.Value)
	}
	if !right {
		return nil, api.ErrForm
	}
	x.index.Compact(x.floor)
	return &Store{state{base: b, index: x.index, numbers: x.numbers}}, api.OK
}

// opening is what is known of a database, as its changes are gone through.
type opening struct {
	numbers
	index *index.Index
	met   map[string]struct{} // the keys of which there was a change
	last  api.Rev             // of all changes; zero, which is below all right ones, if none came yet
}

// enter: the change of these bytes comes next; false: of a store it can't.
func (x *opening) enter(at, value []byte) bool {
	c, right := readChange(at, value)
	if !right || !x.inOrder(c.rev) {
		return false
	}
	_, met := x.met[string(c.kv.Key)]
	x.met[string(c.kv.Key)] = struct{}{}
	x.last = c.rev
	if met || c.rev.Main > x.floor {
		return x.follow(c)
	}
	return x.begin(c)
}

// inOrder: may a change of this revision come next? A write that is above the floor has all its changes.
func (x *opening) inOrder(r api.Rev) bool {
	next := api.Rev{Main: r.Main}
	if r.Main == x.last.Main {
		next.Sub = x.last.Sub + 1
	}
	return r.Main <= x.rev && rev.Compare(r, next) >= 0 && (r == next || r.Main <= x.floor)
}

// begin: the first change of a key, up to the floor. What came ahead of it may have been swept, and with that all that a tombstone ended.
func (x *opening) begin(c change) bool {
	return c.tomb || x.index.Restore(c.kv.Key, c.found(), false) == api.OK
}

// follow: any other change, which comes right behind what is known of its key.
func (x *opening) follow(c change) bool {
	if c.tomb {
		return x.index.Tomb(c.kv.Key, c.rev) == api.OK
	}
	err := x.index.Put(c.kv.Key, c.rev)
	f, _ := x.index.Get(c.kv.Key, c.rev.Main)
	return err == api.OK && f == c.found()
}
