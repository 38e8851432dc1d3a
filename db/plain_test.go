package db_test

import (
	"bytes"
	"slices"
	"testing"

	"terrier/api"
	"terrier/disk"
	"terrier/pager"
	"terrier/tree"
)

// list is keys and values, rising.
type list []tree.Pair

// shelf is a bucket: a name, and what it has.
type shelf struct {
	name string
	list list
}

// plain is buckets, by rising names, none of them empty. It is never changed: each call answers another one.
type plain []shelf

// at: where a bucket is, or is to be.
func (q plain) at(name string) (int, bool) {
	for i, s := range q {
		if s.name >= name {
			return i, s.name == name
		}
	}
	return len(q), false
}

// of: what a bucket has.
func (q plain) of(name string) list {
	if i, found := q.at(name); found {
		return q[i].list
	}
	return nil
}

// with: these buckets, and this one has that.
func (q plain) with(name string, l list) plain {
	i, found := q.at(name)
	j := i
	if found {
		j++
	}
	if len(l) == 0 {
		return slices.Delete(slices.Clone(q), i, j)
	}
	return slices.Replace(slices.Clone(q), i, j, shelf{name, l})
}

// put: these buckets, and the key has this value.
func (q plain) put(name, key string, value []byte) plain {
	return q.with(name, append(q.of(name).without(key), tree.Pair{Key: []byte(key), Value: value}).sorted())
}

// delete: these buckets, but for the key.
func (q plain) delete(name, key string) plain { return q.with(name, q.of(name).without(key)) }

// names are those of all buckets.
func (q plain) names() []string {
	var out []string
	for _, s := range q {
		out = append(out, s.name)
	}
	return out
}

// get: a key's value.
func (l list) get(key string) ([]byte, bool) {
	for _, pair := range l {
		if string(pair.Key) == key {
			return pair.Value, true
		}
	}
	return nil, false
}

// without: this list, but for the key.
func (l list) without(key string) list {
	return slices.DeleteFunc(slices.Clone(l), func(pair tree.Pair) bool { return string(pair.Key) == key })
}

// sorted: by rising keys.
func (l list) sorted() list {
	slices.SortFunc(l, func(a, b tree.Pair) int { return bytes.Compare(a.Key, b.Key) })
	return l
}

// between: what a Walk tells.
func (l list) between(from, to []byte, limit int) list {
	var out list
	for _, pair := range l {
		if bytes.Compare(pair.Key, from) >= 0 && (to == nil || bytes.Compare(pair.Key, to) < 0) && (limit <= 0 || len(out) < limit) {
			out = append(out, pair)
		}
	}
	return out
}

// samePairs: are they the same?
func samePairs(a, b []tree.Pair) bool {
	return slices.EqualFunc(a, b, func(a, b tree.Pair) bool {
		return bytes.Equal(a.Key, b.Key) && bytes.Equal(a.Value, b.Value)
	})
}

// onDisk is what the last commit of a disk has, found by the chapter's words: under the pager's root a tree of names, which have four bytes each, a root.
func onDisk(t *testing.T, d *disk.Disk) (q plain, pages int) {
	t.Helper()
	p, e := pager.Open(d)
	mustBe(t, "pager.Open", e, api.OK)
	names, e := tree.Walk(p, p.Root(), nil, nil, 0)
	mustBe(t, "the tree of names", e, api.OK)
	met := pagesOf(t, p, p.Root())
	for _, pair := range names {
		name, v := string(pair.Key), pair.Value
		if len(name) < 1 || len(name) > 16 || len(v) != 4 {
			t.Fatalf("the name %q has % x", name, v)
		}
		root := int(v[0])<<24 | int(v[1])<<16 | int(v[2])<<8 | int(v[3])
		l, e := tree.Walk(p, root, nil, nil, 0)
		if e != api.OK || len(l) == 0 {
			t.Fatalf("the bucket %q, of the root %d, has %q, %d", name, root, l, e)
		}
		met = append(met, pagesOf(t, p, root)...)
		q = append(q, shelf{name, l})
	}
	mustBeParted(t, d.Size(), met, p.Spare())
	return q, len(met)
}

// pagesOf are those of a tree.
func pagesOf(t *testing.T, p *pager.Pager, root int) []int {
	t.Helper()
	ids, e := tree.Pages(p, root)
	mustBe(t, "tree.Pages", e, api.OK)
	return ids
}

// mustBeParted asks that behind a commit each page is a tree's, or spare, or of the chain, and that of one thing alone.
func mustBeParted(t *testing.T, size int, met, spare []int) {
	t.Helper()
	other := size - 2 - len(met)
	if chain := (other + 59) / 60; len(spare) != other-chain {
		t.Fatalf("behind a commit %d pages are spare, of %d; %d are of trees, %d of the chain", len(spare), size, len(met), chain)
	}
	all := slices.Sorted(slices.Values(slices.Concat(met, spare)))
	if len(slices.Compact(all)) < len(met)+len(spare) {
		t.Fatalf("pages in two places: of trees are %v, spare %v", met, spare)
	}
}
