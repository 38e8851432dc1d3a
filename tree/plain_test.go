package tree_test

import (
	"bytes"
	"slices"

	"terrier/api"
	"terrier/page"
	"terrier/pager"
	"terrier/tree"
)

// looked is what there is beneath a root, found by the chapter's words: the keys and values in order, and the pages.
type looked struct {
	pairs []tree.Pair
	pages []int
}

// look: what there is beneath a root; false: it is no tree.
func look(p *pager.Pager, root int) (looked, bool) {
	l := &looked{}
	if root == 0 {
		return *l, true
	}
	pairs, _, ok := l.beneath(p, root)
	if !ok {
		return looked{}, false
	}
	for i := range pairs {
		if i > 0 && bytes.Compare(pairs[i-1].Key, pairs[i].Key) >= 0 {
			return looked{}, false
		}
	}
	l.pairs = pairs
	slices.Sort(l.pages)
	return *l, true
}

// meet: a page of these kinds, that was not met before.
func (l *looked) meet(p *pager.Pager, id int, kinds ...int) (page.Page, bool) {
	if slices.Contains(l.pages, id) {
		return page.Page{}, false
	}
	l.pages = append(l.pages, id)
	x, e := p.Read(id)
	return x, e == api.OK && slices.Contains(kinds, x.Kind)
}

// beneath: the keys and values beneath a page, and the height: of a Leaf 1.
func (l *looked) beneath(p *pager.Pager, id int) (pairs []tree.Pair, height int, ok bool) {
	x, ok := l.meet(p, id, page.Leaf, page.Branch)
	if !ok {
		return nil, 0, false
	}
	for _, item := range x.Items {
		value, ok := l.valueOf(p, item)
		if !ok {
			return nil, 0, false
		}
		pairs = append(pairs, tree.Pair{Key: item.Key, Value: value})
	}
	for i, kid := range x.Kids {
		its, high, ok := l.beneath(p, kid.Page)
		if !ok || i > 0 && high != height {
			return nil, 0, false
		}
		height = high
		for _, pair := range its {
			if bytes.Compare(pair.Key, kid.Key) < 0 || i+1 < len(x.Kids) && bytes.Compare(pair.Key, x.Kids[i+1].Key) >= 0 {
				return nil, 0, false
			}
		}
		pairs = append(pairs, its...)
	}
	return pairs, height + 1, true
}

// valueOf: an item's value, in pieces of 237 bytes each but the last one, if it has more than 64.
func (l *looked) valueOf(p *pager.Pager, item page.Item) ([]byte, bool) {
	if item.Size <= 64 {
		return item.Value, true
	}
	var out []byte
	for left, at := item.Size, item.More; left > 0; {
		x, ok := l.meet(p, at, page.Piece)
		if !ok || len(x.Data) != min(left, 237) {
			return nil, false
		}
		out, left, at = append(out, x.Data...), left-len(x.Data), x.Next
		if left == 0 && at != 0 {
			return nil, false
		}
	}
	return out, true
}

// list is keys and values, rising.
type list []tree.Pair

// at: where a key is, or is to be.
func (l list) at(key []byte) (int, bool) {
	for i, pair := range l {
		if c := bytes.Compare(pair.Key, key); c >= 0 {
			return i, c == 0
		}
	}
	return len(l), false
}

// with: this list, and the key has this value.
func (l list) with(key, value []byte) list {
	i, found := l.at(key)
	if found {
		return slices.Replace(slices.Clone(l), i, i+1, tree.Pair{Key: key, Value: value})
	}
	return slices.Insert(slices.Clone(l), i, tree.Pair{Key: key, Value: value})
}

// without: this list, but for the key.
func (l list) without(key []byte) list {
	return slices.DeleteFunc(slices.Clone(l), func(pair tree.Pair) bool { return bytes.Equal(pair.Key, key) })
}

// between: what a Walk tells.
func (l list) between(from, to []byte, limit int) list {
	var out list
	for _, pair := range l {
		if bytes.Compare(pair.Key, from) >= 0 && (to == nil || bytes.Compare(pair.Key, to) < 0) && (limit <= 0 || len(out) < limit) {
			out = append(out, pair)
		}
	}
	return out
}

// samePairs: are they the same?
func samePairs(a, b []tree.Pair) bool {
	return slices.EqualFunc(a, b, func(a, b tree.Pair) bool {
		return bytes.Equal(a.Key, b.Key) && bytes.Equal(a.Value, b.Value)
	})
}
