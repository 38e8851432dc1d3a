package tree

import (
	"bytes"
	"slices"

	"terrier/api"
	"terrier/page"
	"terrier/pager"
)

// check is a Check on its way.
type check struct {
	visit
	depth int // of the Leaves, 0 ahead of the first one
}

// Check: is it a tree?
func Check(p *pager.Pager, root int) api.Errno {
	_, err := Pages(p, root)
	return err
}

// Pages: all its pages.
func Pages(p *pager.Pager, root int) ([]int, api.Errno) {
	if root == 0 {
		return nil, api.OK
	}
	c := check{visit: visit{pager: p}}
	if err := c.beneath(page.Kid{Page: root}, nil, 1); err != api.OK {
		return nil, err
	}
	slices.Sort(c.met)
	if len(slices.Compact(c.met)) < len(c.met) {
		return nil, api.ErrForm // a page in two places
	}
	return c.met, api.OK
}

// beneath: is it a tree of keys from the kid's Key on, and below end (nil: no end), as deep as the others?
func (c *check) beneath(kid page.Kid, end []byte, depth int) api.Errno {
	x, err := c.node(kid)
	if err != api.OK {
		return err
	}
	if x.Kind == page.Leaf {
		return c.leaf(x.Items, kid.Key, end, depth)
	}
	for i, kid := range x.Kids {
		next := end
		if i+1 < len(x.Kids) {
			next = x.Kids[i+1].Key // which isn't empty, as it is above another one
		}
		if err := c.beneath(kid, next, depth+1); err != api.OK {
			return err
		}
	}
	return api.OK
}

// leaf: are these items' keys, which rise, within bounds, and their values whole?
func (c *check) leaf(items []page.Item, from, end []byte, depth int) api.Errno {
	if c.depth == 0 {
		c.depth = depth
	}
	last := items[len(items)-1].Key
	if depth != c.depth || bytes.Compare(items[0].Key, from) < 0 || end != nil && bytes.Compare(last, end) >= 0 {
		return api.ErrForm
	}
	for _, item := range items {
		value, err := c.value(item)
		if err != api.OK {
			return err
		}
		if !value.filled {
			return api.ErrForm
		}
	}
	return api.OK
}
