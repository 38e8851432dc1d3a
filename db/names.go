package db

import (
	"terrier/api"
	"terrier/octets"
	"terrier/tree"
)

// rootSize is how many bytes a bucket's root has in the tree of names.
const rootSize = 4

// bucket is a name, and the root that it has.
type bucket struct {
	name string
	root int
}

// isName: may a bucket be named so?
func isName(name string) bool { return len(name) >= 1 && len(name) <= api.MaxBucket }

// asked: may it be asked for a bucket of this name?
func (b *DB) asked(name string) api.Errno {
	if b == nil || !isName(name) {
		return api.ErrArg
	}
	return api.OK
}

// find: a bucket's root, 0 if it isn't there.
func (b *DB) find(name string) (int, api.Errno) {
	if err := b.asked(name); err != api.OK {
		return 0, err
	}
	value, found, err := tree.Get(b.pager, b.pager.Root(), []byte(name))
	if !found { // so it is beside an error, too
		return 0, err
	}
	return rootOf(value)
}

// rootOf: the root that a name has. It isn't 0, as a bucket without a key has no name.
func rootOf(value []byte) (int, api.Errno) {
	root, err := octets.Get(value, 0, rootSize)
	if err != api.OK || len(value) > rootSize || root == 0 {
		return 0, api.ErrForm
	}
	return int(root), api.OK
}

// name: a bucket has this root; 0: it has no key any more.
func (b *DB) name(name string, root int) api.Errno {
	names, err := b.pager.Root(), api.OK
	if root == 0 {
		names, _, err = tree.Delete(b.pager, names, []byte(name))
	} else {
		value, _ := octets.Put(uint64(root), rootSize) // it goes in, as no page's number is above MaxPages
		names, err = tree.Put(b.pager, names, []byte(name), value)
	}
	if err == api.OK {
		b.pager.SetRoot(names)
	}
	return err
}

// all: the buckets that have a key, by rising names.
func (b *DB) all() ([]bucket, api.Errno) {
	pairs, err := tree.Walk(b.pager, b.pager.Root(), nil, nil, 0)
	if err != api.OK {
		return nil, err
	}
	var out []bucket
	for _, pair := range pairs {
		name := string(pair.Key)
		root, err := rootOf(pair.Value)
		if err != api.OK || !isName(name) {
			return nil, api.ErrForm
		}
		out = append(out, bucket{name, root})
	}
	return out, api.OK
}

// Buckets: the names.
func (b *DB) Buckets() ([]string, api.Errno) {
	if b == nil {
		return nil, api.ErrArg
	}
	all, err := b.all()
	var out []string
	for _, x := range all {
		out = append(out, x.name)
	}
	return out, err
}
