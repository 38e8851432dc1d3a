package pager_test

import (
	"bytes"
	"encoding/binary"
	"hash/crc32"
	"maps"
	"slices"

	"terrier/api"
	"terrier/meta"
	"terrier/page"
)

// sealed is a page whose checksum is of these bytes, and of noughts up to its end.
func sealed(body []byte) []byte {
	body = append(slices.Clone(body), make([]byte, 252-len(body))...)
	crc := crc32.Checksum(body, crc32.MakeTable(crc32.Castagnoli))
	return append(binary.BigEndian.AppendUint32(nil, crc), body...)
}

// metaBytes is the bytes of a meta, right or not.
func metaBytes(txn uint64, root, spare, size int) []byte {
	body := binary.BigEndian.AppendUint64([]byte{9}, txn)
	body = append(body, "TERR\x01"...)
	for _, n := range []int{root, spare, size} {
		body = binary.BigEndian.AppendUint32(body, uint32(n))
	}
	body = append(body, make([]byte, 244-len(body))...)
	return sealed(binary.BigEndian.AppendUint64(body, txn))
}

// spareBytes is the bytes of a Spare, right or not.
func spareBytes(txn uint64, next int, ids ...int) []byte {
	body := binary.BigEndian.AppendUint64([]byte{4}, txn)
	body = binary.BigEndian.AppendUint32(body, uint32(next))
	body = binary.BigEndian.AppendUint16(body, uint16(len(ids)))
	for _, id := range ids {
		body = binary.BigEndian.AppendUint32(body, uint32(id))
	}
	return sealed(body)
}

// bytesOf is the bytes of a right page.
func bytesOf(x page.Page) []byte {
	b, _ := page.Encode(x)
	return b
}

// upTo are the pages from one on, up to another one, but not with it.
func upTo(from, to int) []int {
	var out []int
	for id := from; id < to; id++ {
		out = append(out, id)
	}
	return out
}

// op is a write, or, of the page -1, a sync.
type op struct {
	page  int
	bytes []byte
}

var sync = op{page: -1}

// chainOps are the writes of a chain that lists these numbers, 59 in each page but the last one.
func chainOps(txn uint64, chain, ids []int) []op {
	var out []op
	for i, id := range chain {
		next, here := 0, ids[min(59*i, len(ids)):min(59*i+59, len(ids))]
		if i+1 < len(chain) {
			next = chain[i+1]
		}
		out = append(out, op{id, spareBytes(txn, next, here...)})
	}
	return out
}

// least is the least number of chain pages for which at most 59 of so many pages are left for each.
func least(pages int) int {
	k := 0
	for pages-k > 59*k {
		k++
	}
	return k
}

// formatOps are the writes of a disk's formatting, and its sync.
func formatOps(size int) []op {
	k := least(size - 2)
	out := []op{{0, metaBytes(0, 0, 0, size)}, {1, metaBytes(1, 0, 2, size)}}
	return append(append(out, chainOps(1, upTo(2, 2+k), upTo(2+k, size))...), sync)
}

// store is a disk as chapter 3's words say it: what each page has on it, and what is in the cache.
type store struct {
	on [][]byte
	in map[int][]byte
}

// blank is one of so many pages, of noughts.
func blank(size int) *store {
	s := &store{in: map[int][]byte{}}
	for range size {
		s.on = append(s.on, make([]byte, 256))
	}
	return s
}

// read is what a page has.
func (s *store) read(id int) []byte {
	if b, written := s.in[id]; written {
		return b
	}
	return s.on[id]
}

// run does so many of these, and tells whether that were all.
func (s *store) run(ops []op, fuse int) api.Errno {
	for i, o := range ops {
		if i == fuse {
			return api.ErrDead
		}
		if o.page >= 0 {
			s.in[o.page] = o.bytes
			continue
		}
		for id, b := range s.in {
			s.on[id] = b
		}
		clear(s.in)
	}
	return api.OK
}

// crash keeps of each page so many of the first bytes.
func (s *store) crash(keep map[int]int) {
	for id, b := range s.in {
		s.on[id] = slices.Concat(b[:keep[id]], s.on[id][keep[id]:])
	}
	clear(s.in)
}

// apart is one with the same in it.
func (s *store) apart() *store { return &store{slices.Clone(s.on), maps.Clone(s.in)} }

// What a page of a disk is to a plain pager.
const (
	used = iota // by a tree, or by nothing
	spare
	held
	chained
	fresh // added in the transaction
)

// plain is a pager as the chapter's words say it.
type plain struct {
	store *store
	size  int
	txn   uint64
	dead  bool
	chain []int
	plainNow
}

// plainNow is its transaction.
type plainNow struct {
	root  int
	what  []int // what each page is
	added map[int]page.Page
}

// apart is one with the same in it.
func (n plainNow) apart() plainNow {
	return plainNow{n.root, slices.Clone(n.what), maps.Clone(n.added)}
}

// openPlain is the pager of a disk.
func openPlain(s *store) (*plain, api.Errno) {
	m, err := meta.Choose(s.read(0), s.read(1))
	if err != api.OK {
		return nil, err
	}
	if m.Size != len(s.on) {
		return nil, api.ErrForm
	}
	p := &plain{store: s, size: m.Size, txn: m.Txn, plainNow: plainNow{root: m.Root, what: make([]int, m.Size), added: map[int]page.Page{}}}
	var ids []int
	for at := m.Spare; at != 0; {
		if at < 2 || at >= p.size || slices.Contains(p.chain, at) {
			return nil, api.ErrForm
		}
		x, err := page.Decode(s.read(at))
		if err != api.OK {
			return nil, err
		}
		if x.Kind != page.Spare {
			return nil, api.ErrForm
		}
		p.chain, ids, at = append(p.chain, at), append(ids, x.IDs...), x.Next
	}
	for _, id := range slices.Concat(p.chain, ids) {
		if id < 2 || id >= p.size || p.what[id] != used {
			return nil, api.ErrForm
		}
		p.what[id] = spare
	}
	for _, id := range p.chain {
		p.what[id] = chained
	}
	return p, api.OK
}

// those are the pages that are one of these, rising.
func (p *plain) those(what ...int) []int {
	var out []int
	for id := 2; id < p.size; id++ {
		if slices.Contains(what, p.what[id]) {
			out = append(out, id)
		}
	}
	return out
}

func (p *plain) read(id int) (page.Page, api.Errno) {
	if p.dead {
		return page.Page{}, api.ErrDead
	}
	if id < 2 || id >= p.size {
		return page.Page{}, api.ErrRange
	}
	if p.what[id] == fresh {
		return p.added[id], api.OK
	}
	return page.Decode(p.store.read(id))
}

func (p *plain) add(x page.Page) (int, api.Errno) {
	rest := p.those(spare)
	switch {
	case p.dead:
		return 0, api.ErrDead
	case !page.Right(x):
		return 0, api.ErrForm
	case len(rest) < p.size/60+2:
		return 0, api.ErrNoSpace
	}
	x.Txn = p.txn + 1
	p.what[rest[0]] = fresh
	p.added[rest[0]] = x
	return rest[0], api.OK
}

func (p *plain) drop(id int) api.Errno {
	if p.dead {
		return api.ErrDead
	}
	if id < 2 || id >= p.size {
		return api.ErrRange
	}
	switch p.what[id] {
	case used:
		p.what[id] = held
	case fresh:
		p.what[id] = spare
		delete(p.added, id)
	default:
		return api.ErrExist
	}
	return api.OK
}

func (p *plain) setRoot(id int) {
	if !p.dead {
		p.root = id
	}
}

// plan is what a commit would write, and the chain that it would have.
func (p *plain) plan() ([]op, []int, api.Errno) {
	rest, all := p.those(spare), p.those(spare, held, chained)
	k := least(len(all))
	switch {
	case p.dead:
		return nil, nil, api.ErrDead
	case k > len(rest):
		return nil, nil, api.ErrNoSpace
	case p.root != 0 && (p.root < 2 || p.root >= p.size):
		return nil, nil, api.ErrForm
	}
	chain, first := rest[:k], 0
	if k > 0 {
		first = chain[0]
	}
	left := slices.DeleteFunc(all, func(id int) bool { return slices.Contains(chain, id) })
	var ops []op
	for _, id := range p.those(fresh) {
		ops = append(ops, op{id, bytesOf(p.added[id])})
	}
	ops = append(ops, chainOps(p.txn+1, chain, left)...)
	top := op{int((p.txn + 1) % 2), metaBytes(p.txn+1, p.root, first, p.size)}
	return append(ops, sync, top, sync), chain, api.OK
}

// commit does so many of its writes and syncs; below 0: all.
func (p *plain) commit(fuse int) api.Errno {
	ops, chain, err := p.plan()
	if err != api.OK {
		return err
	}
	if err := p.store.run(ops, fuse); err != api.OK {
		p.dead = true
		return err
	}
	p.txn++
	p.chain = chain
	for id, what := range p.what {
		switch {
		case what == fresh:
			p.what[id] = used
		case what == held || what == chained:
			p.what[id] = spare
		}
	}
	for _, id := range chain {
		p.what[id] = chained
	}
	clear(p.added)
	return api.OK
}

// same: have two pages the same in them? A list that is nil is one that is empty.
func same(x, y page.Page) bool {
	if x.Kind == 0 || y.Kind == 0 {
		return isNothing(x) && isNothing(y)
	}
	return page.Right(x) && page.Right(y) && bytes.Equal(bytesOf(x), bytesOf(y))
}

// isNothing: is all of a page zero?
func isNothing(x page.Page) bool {
	return x.Kind == 0 && x.Txn == 0 && x.Next == 0 && len(x.Items)+len(x.Kids)+len(x.Data)+len(x.IDs) == 0
}
