package tree

import (
	"bytes"
	"slices"

	"terrier/api"
	"terrier/page"
	"terrier/pager"
)

// visit is what one call does in a tree.
type visit struct {
	pager *pager.Pager
	met   []int // the pages that were read, each time that they were
}

// read: a page. They are no tree's if they are more than a disk can have, and might go on without an end.
func (v *visit) read(id int) (page.Page, api.Errno) {
	if len(v.met) == api.MaxPages {
		return page.Page{}, api.ErrForm
	}
	v.met = append(v.met, id)
	return v.pager.Read(id)
}

// node: the Leaf or the Branch that is a kid.
func (v *visit) node(kid page.Kid) (page.Page, api.Errno) {
	x, err := v.read(kid.Page)
	if err != api.OK {
		return page.Page{}, err
	}
	if x.Kind != page.Leaf && x.Kind != page.Branch {
		return page.Page{}, api.ErrForm
	}
	// A Branch may say less of its first kid than what is said of itself; kept so, it might stand behind a greater Key one day.
	if x.Kind == page.Branch && bytes.Compare(x.Kids[0].Key, kid.Key) < 0 {
		x.Kids[0].Key = kid.Key
	}
	return x, api.OK
}

// path is the way from a root to the Leaf where a key has its place.
type path struct {
	pages []int  // all that it goes through, the Leaf too
	above []turn // the Branches, from the root on
	leaf  page.Page
}

// turn is a Branch, and which of its kids the way goes on with.
type turn struct {
	branch page.Page
	at     int
}

// descend: the path to a key's place. That of the empty tree is nothing, with no items.
func (v *visit) descend(root int, key []byte) (path, api.Errno) {
	var way path
	for kid := (page.Kid{Page: root}); kid.Page != 0; {
		x, err := v.node(kid)
		if err != api.OK {
			return path{}, err
		}
		way.pages = append(way.pages, kid.Page)
		if x.Kind == page.Leaf {
			way.leaf = x
			break
		}
		at := which(x.Kids, key)
		way.above = append(way.above, turn{x, at})
		kid = x.Kids[at]
	}
	return way, api.OK
}

// isLast: does no key of another Leaf stand behind this one's?
func (way path) isLast() bool {
	return !slices.ContainsFunc(way.above, func(t turn) bool { return t.at < len(t.branch.Kids)-1 })
}

// place: where among items a key's one is, or is to be, and is it there?
func place(items []page.Item, key []byte) (int, bool) {
	return slices.BinarySearchFunc(items, key, func(item page.Item, key []byte) int { return bytes.Compare(item.Key, key) })
}

// which: the kid beneath which a key is, if it is in the tree, or is to be.
func which(kids []page.Kid, key []byte) int {
	at, found := slices.BinarySearchFunc(kids, key, func(kid page.Kid, key []byte) int { return bytes.Compare(kid.Key, key) })
	if found {
		return at
	}
	return max(at-1, 0) // below all kids' Keys: the first one's may be lowered, no other one's
}

// blob is an item's value.
type blob struct {
	bytes  []byte
	pieces []int // where it stands, if not in its item
	filled bool  // has each of them but the last all that goes into it?
}

// value: an item's.
func (v *visit) value(item page.Item) (blob, api.Errno) {
	out := blob{bytes: item.Value, filled: true} // of an item that has Pieces there is no Value, and of one that has none no More
	for at := item.More; at != 0; {
		x, err := v.read(at)
		if err != api.OK {
			return blob{}, err
		}
		if x.Kind != page.Piece || len(out.bytes)+len(x.Data) > item.Size {
			return blob{}, api.ErrForm
		}
		out.filled = out.filled && (x.Next == 0 || len(x.Data) == api.PageRoom)
		out.bytes, out.pieces = append(out.bytes, x.Data...), append(out.pieces, at)
		at = x.Next
	}
	if len(out.bytes) < item.Size {
		return blob{}, api.ErrForm
	}
	return out, api.OK
}
