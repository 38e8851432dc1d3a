package pager

import (
	"maps"
	"slices"

	"terrier/api"
	"terrier/disk"
	"terrier/free"
	"terrier/meta"
)

// sheet is a page's bytes, and where they are to stand.
type sheet struct {
	id    int
	bytes []byte
}

// put: these sheets are on the disk, synced.
func put(d *disk.Disk, sheets []sheet) api.Errno {
	for _, s := range sheets {
		if err := d.Write(s.id, s.bytes); err != api.OK {
			return err
		}
	}
	return d.Sync()
}

// layMeta: a meta at its place.
func layMeta(m meta.Meta) (sheet, api.Errno) {
	b, err := meta.Encode(m)
	return sheet{int(m.Txn % 2), b}, err
}

// Format: an empty disk.
func Format(d *disk.Disk) api.Errno {
	if d == nil {
		return api.ErrArg
	}
	size := d.Size()
	var pages []int
	for id := firstPage; id < size; id++ {
		pages = append(pages, id)
	}
	length := chainLength(len(pages))
	// Both metas are right, as a disk has no other size than a meta may have.
	zero, _ := layMeta(meta.Meta{Size: size})
	one, _ := layMeta(meta.Meta{Txn: 1, Spare: firstPage, Size: size})
	return put(d, append([]sheet{zero, one}, layChain(1, pages[:length], pages[length:])...))
}

// Commit: the transaction is on the disk.
func (p *Pager) Commit() api.Errno {
	if err := p.alive(); err != api.OK {
		return err
	}
	chain, list, err := p.settle()
	if err != api.OK {
		return err
	}
	m := meta.Meta{Txn: p.last.Txn + 1, Root: p.now.root, Spare: first(chain), Size: p.last.Size}
	top, err := layMeta(m) // ahead of the first write, as any number may be the root
	if err != api.OK {
		return err
	}
	if err := p.store(append(p.layAdded(), layChain(m.Txn, chain, list.Spare())...), top); err != api.OK {
		p.dead = true
		return err
	}
	p.begin(m, chain, list)
	return api.OK
}

// settle: the chain of the next commit, and the list behind it, which stands in that chain. Neither is the pager's before the commit is done.
func (p *Pager) settle() ([]int, *free.List, api.Errno) {
	list := p.now.list.Copy()
	var chain []int
	for range chainLength(list.Room() + len(list.Held()) + len(p.chain)) {
		id, err := list.Take()
		if err != api.OK {
			return nil, nil, err
		}
		chain = append(chain, id)
	}
	list.Settle()
	for _, id := range p.chain {
		list.Give(id)
	}
	return chain, list, api.OK
}

// layAdded: the sheets of the added pages, by rising numbers.
func (p *Pager) layAdded() []sheet {
	var out []sheet
	for _, id := range slices.Sorted(maps.Keys(p.now.added)) {
		out = append(out, sheet{id, p.now.added[id]})
	}
	return out
}

// store: all pages of a commit, and, when they are synced, the meta that tells of them.
func (p *Pager) store(pages []sheet, top sheet) api.Errno {
	if err := put(p.disk, pages); err != api.OK {
		return err
	}
	return put(p.disk, []sheet{top})
}
