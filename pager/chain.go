package pager

import (
	"slices"

	"terrier/api"
	"terrier/disk"
	"terrier/page"
)

// idsInPage is how many numbers, of four bytes each, go into a page's room.
const idsInPage = api.PageRoom / 4

// chainLength: how many of so many pages a chain needs, that lists all others of them.
func chainLength(pages int) int { return (pages + idsInPage) / (idsInPage + 1) }

// readChain: the pages of the chain that begins here (0: it has none), and the numbers in it.
func readChain(d *disk.Disk, at int) (chain, ids []int, err api.Errno) {
	for at != 0 {
		if !inBounds(at, d.Size()) || slices.Contains(chain, at) {
			return nil, nil, api.ErrForm
		}
		x, err := readPage(d, at)
		if err != api.OK {
			return nil, nil, err
		}
		if x.Kind != page.Spare {
			return nil, nil, api.ErrForm
		}
		chain, ids = append(chain, at), append(ids, x.IDs...)
		at = x.Next
	}
	return chain, ids, api.OK
}

// layChain: the sheets of a chain that lists these numbers. It has room for them, and they rise, so that its pages are right.
func layChain(txn uint64, chain, ids []int) []sheet {
	var out []sheet
	for i, id := range chain {
		here := min(len(ids), idsInPage)
		x := page.Page{Kind: page.Spare, Txn: txn, Next: first(chain[i+1:]), IDs: ids[:here]}
		b, _ := page.Encode(x)
		out, ids = append(out, sheet{id, b}), ids[here:]
	}
	return out
}

// first: the page at which a chain begins, 0 if it has none.
func first(chain []int) int {
	if len(chain) == 0 {
		return 0
	}
	return chain[0]
}
