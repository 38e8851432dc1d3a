package tree

import (
	"slices"

	"terrier/api"
	"terrier/page"
)

// change is a Put or a Delete on its way.
type change struct {
	visit
	rising  bool // is a key put behind all others?
	joining bool // are pages that have little to be joined? Where a key is put they mostly get more, so that it isn't worth reading others
}

// leaf: a page of items.
func leaf(items []page.Item) page.Page { return page.Page{Kind: page.Leaf, Items: items} }

// branch: a page of kids.
func branch(kids []page.Kid) page.Page { return page.Page{Kind: page.Branch, Kids: kids} }

// drop: pages that others stand in the place of.
func (c *change) drop(ids []int) api.Errno {
	for _, id := range ids {
		if err := c.pager.Drop(id); err != api.OK {
			return err
		}
	}
	return api.OK
}

// without: a Leaf's items but the key's. All pages that won't be needed behind the change are dropped, ahead of what is added, as it may need their room.
func (c *change) without(way path, key []byte) ([]page.Item, api.Errno) {
	items := way.leaf.Items
	at, found := place(items, key)
	if !found {
		return items, c.drop(way.pages)
	}
	old, err := c.value(items[at])
	if err != api.OK {
		return nil, err
	}
	return slices.Delete(items, at, at+1), c.drop(slices.Concat(way.pages, old.pieces))
}

// layItem: a key and its value, which is laid into Pieces if it is long, the last one first, as each has to say where the next one is.
func (c *change) layItem(key, value []byte) (page.Item, api.Errno) {
	item := page.Item{Key: key, Size: len(value)}
	if len(value) <= api.MaxInline {
		item.Value = value
		return item, api.OK
	}
	for _, data := range slices.Backward(slices.Collect(slices.Chunk(value, api.PageRoom))) {
		id, err := c.pager.Add(page.Page{Kind: page.Piece, Next: item.More, Data: data})
		if err != api.OK {
			return page.Item{}, err
		}
		item.More = id
	}
	return item, api.OK
}

// climb: the root of the tree in which a draft stands at the end of this way. A draft is a page that has not been added yet: it may have any number of things.
func (c *change) climb(above []turn, draft page.Page) (int, api.Errno) {
	for _, t := range slices.Backward(above) {
		err := api.OK
		if draft, err = c.replace(t, draft); err != api.OK {
			return 0, err
		}
	}
	return c.top(draft)
}

// replace: the draft of a Branch in which the pages of this draft stand in place of the kid that was taken.
func (c *change) replace(t turn, draft page.Page) (page.Page, api.Errno) {
	draft, from, to, err := c.join(t, draft)
	if err != api.OK {
		return page.Page{}, err
	}
	kids, err := c.lay(draft)
	return branch(slices.Replace(t.branch.Kids, from, to, kids...)), err
}

// join: a draft of less than half a page with what a neighbour has, if both go into one page; and from where to where the kids stand that are in it.
func (c *change) join(t turn, draft page.Page) (out page.Page, from, to int, err api.Errno) {
	for _, at := range c.neighbours(t, page.Used(draft)) {
		kid := t.branch.Kids[at]
		x, err := c.node(kid)
		if err == api.OK && x.Kind != draft.Kind {
			err = api.ErrForm
		}
		if err != api.OK {
			return page.Page{}, 0, 0, err
		}
		joined := both(draft, x)
		if at < t.at {
			joined = both(x, draft)
		}
		if page.Used(joined) <= api.PageRoom {
			return joined, min(at, t.at), max(at, t.at) + 1, c.pager.Drop(kid.Page)
		}
	}
	return draft, t.at, t.at + 1, api.OK
}

// neighbours: which kids a draft of so many bytes, in place of the kid that was taken, may be joined with: none, if it has nothing, or enough.
func (c *change) neighbours(t turn, used int) []int {
	var out []int
	for _, at := range []int{t.at - 1, t.at + 1} {
		if c.joining && used > 0 && used < api.PageRoom/2 && at >= 0 && at < len(t.branch.Kids) {
			out = append(out, at)
		}
	}
	return out
}

// both: what two pages of one kind have.
func both(a, b page.Page) page.Page {
	return page.Page{Kind: a.Kind, Items: slices.Concat(a.Items, b.Items), Kids: slices.Concat(a.Kids, b.Kids)}
}

// top: the root of the tree of a draft, with Branches above as long as it has more than one page.
func (c *change) top(draft page.Page) (int, api.Errno) {
	if page.Used(draft) == 0 {
		return 0, api.OK
	}
	for draft.Kind == page.Leaf || len(draft.Kids) > 1 {
		kids, err := c.lay(draft)
		if err != api.OK {
			return 0, err
		}
		draft = branch(kids)
	}
	return draft.Kids[0].Page, api.OK
}

// lay: the pages of a draft are added; they are the kids of what stands above.
func (c *change) lay(draft page.Page) ([]page.Kid, api.Errno) {
	var kids []page.Kid
	for _, x := range slices.Concat(part(draft.Items, c.rising, leaf), part(draft.Kids, c.rising, branch)) {
		id, err := c.pager.Add(x)
		if err != api.OK {
			return nil, err
		}
		kids = append(kids, page.Kid{Key: least(x), Page: id})
	}
	return kids, api.OK
}

// least: the key from which on a page has keys.
func least(x page.Page) []byte {
	if x.Kind == page.Leaf {
		return x.Items[0].Key
	}
	return x.Kids[0].Key
}

// part: pages that have these things, in order, none of them more than goes into it: one page if that is enough, else halves, near the middle.
func part[T any](things []T, rising bool, whole func([]T) page.Page) []page.Page {
	all := page.Used(whole(things))
	switch {
	case all == 0:
		return nil
	case all <= api.PageRoom:
		return []page.Page{whole(things)}
	}
	cut := len(things) - 1 // keys that rise fill page by page: none will come into an earlier one
	if !rising {
		cut = middle(things, all, whole)
	}
	return append(part(things[:cut], rising, whole), part(things[cut:], rising, whole)...)
}

// middle: the first of these things, of so many bytes in all, whose own middle isn't ahead of that of all.
func middle[T any](things []T, all int, whole func([]T) page.Page) int {
	for at, ahead := 0, 0; ; at++ {
		used := page.Used(whole(things[at : at+1]))
		if 2*ahead+used >= all {
			return at
		}
		ahead += used
	}
}
