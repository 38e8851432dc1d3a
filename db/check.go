package db

import (
	"slices"

	"terrier/api"
	"terrier/tree"
)

// Check: is all of it right?
func (b *DB) Check() api.Errno {
	if b == nil {
		return api.ErrArg
	}
	ids, err := b.pages()
	if err != api.OK {
		return err
	}
	ids = append(ids, b.pager.Spare()...)
	slices.Sort(ids)
	if len(slices.Compact(ids)) < len(ids) {
		return api.ErrForm // a page in two trees, or spare
	}
	return api.OK
}

// Pages: how many pages all trees have.
func (b *DB) Pages() int {
	if b == nil {
		return 0
	}
	ids, _ := b.pages()
	return len(ids)
}

// pages: those of all trees, that of the names too.
func (b *DB) pages() ([]int, api.Errno) {
	out, err := tree.Pages(b.pager, b.pager.Root())
	if err != api.OK {
		return nil, err
	}
	all, err := b.all()
	if err != api.OK {
		return nil, err
	}
	for _, x := range all {
		ids, err := tree.Pages(b.pager, x.root)
		if err != api.OK {
			return nil, err
		}
		out = append(out, ids...)
		if len(out) > api.MaxPages {
			return nil, api.ErrForm // many names may have one root, and it might go on for very long
		}
	}
	return out, api.OK
}
