package tree

import (
	"bytes"

	"terrier/api"
	"terrier/page"
	"terrier/pager"
)

// walk is a Walk on its way, and what it has found.
type walk struct {
	visit
	from, to []byte
	limit    int
	pairs    []Pair
}

// Walk: the keys of a range.
func Walk(p *pager.Pager, root int, from, to []byte, limit int) ([]Pair, api.Errno) {
	if root == 0 {
		return nil, api.OK
	}
	w := walk{visit: visit{pager: p}, from: from, to: to, limit: limit}
	if err := w.through(page.Kid{Page: root}); err != api.OK {
		return nil, err
	}
	return w.pairs, api.OK
}

// through: what is beneath a kid.
func (w *walk) through(kid page.Kid) api.Errno {
	x, err := w.node(kid)
	if err != api.OK {
		return err
	}
	if x.Kind == page.Leaf {
		return w.take(x.Items)
	}
	for _, kid := range x.Kids[which(x.Kids, w.from):] {
		if w.ends(kid.Key) {
			break
		}
		if err := w.through(kid); err != api.OK {
			return err
		}
	}
	return api.OK
}

// take: those of a Leaf's items that it asks for.
func (w *walk) take(items []page.Item) api.Errno {
	at, _ := place(items, w.from)
	for _, item := range items[at:] {
		if w.ends(item.Key) {
			break
		}
		value, err := w.value(item)
		if err != api.OK {
			return err
		}
		w.pairs = append(w.pairs, Pair{item.Key, value.bytes})
	}
	return api.OK
}

// ends: has it all that it asks for, if this key is the next one?
func (w *walk) ends(key []byte) bool {
	full := w.limit > 0 && len(w.pairs) == w.limit
	return full || w.to != nil && bytes.Compare(key, w.to) >= 0
}
