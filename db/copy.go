package db

import (
	"sync"

	"terrier/api"
	"terrier/disk"
	"terrier/tree"
)

// content is what a bucket has.
type content struct {
	name  string
	pairs []tree.Pair
}

// fault is the first of the errors that it was told.
type fault struct {
	once sync.Once
	err  api.Errno
}

// tell: what came of one thing more.
func (f *fault) tell(err api.Errno) {
	if err != api.OK {
		f.once.Do(func() { f.err = err })
	}
}

// none: did all go well so far?
func (f *fault) none() bool { return f.err == api.OK }

// Copy: a new database with all that this one has.
func (b *DB) Copy(d *disk.Disk) (*DB, api.Errno) {
	if b == nil {
		return nil, api.ErrArg
	}
	all, unread := b.contents() // ahead of Create, as it may be the disk on which this database stands
	out, err := Create(d)
	var first fault
	first.tell(err)
	first.tell(unread)
	for _, x := range all {
		if first.none() {
			first.tell(out.fill(x))
		}
	}
	if first.none() {
		first.tell(out.Commit())
	}
	if !first.none() {
		return nil, first.err
	}
	return out, api.OK
}

// contents: what all buckets have.
func (b *DB) contents() ([]content, api.Errno) {
	if _, err := b.pages(); err != api.OK { // else trees that share pages may have more than there is memory for
		return nil, err
	}
	all, err := b.all()
	if err != api.OK {
		return nil, err
	}
	var out []content
	for _, x := range all {
		pairs, err := tree.Walk(b.pager, x.root, nil, nil, 0)
		if err != api.OK {
			return nil, err
		}
		out = append(out, content{x.name, pairs})
	}
	return out, api.OK
}

// fill: a bucket more. Beside an error something of it may be there.
func (b *DB) fill(x content) api.Errno {
	root, err := 0, api.OK
	for _, pair := range x.pairs {
		if root, err = tree.Put(b.pager, root, pair.Key, pair.Value); err != api.OK {
			return err
		}
	}
	return b.name(x.name, root)
}
