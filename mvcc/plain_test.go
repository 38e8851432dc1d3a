package mvcc_test

import (
	"bytes"
	"encoding/binary"
	"hash/crc32"
	"math"
	"slices"

	"terrier/api"
)

const (
	maxRev   = 4611686018427387904 // 2^62, as the document says
	least    = math.MinInt64
	greatest = math.MaxInt64
	all      = "\x00" // the end of the range of all keys from one on
)

// line is a change of a key, as the chapter's words say it.
type line struct {
	rev   api.Rev
	tomb  bool
	kv    api.KV // of a tombstone the key alone
	swept bool
}

// plain is a store as the chapter's words say it: a list of all changes that there ever were. It is never changed in place: so a copy of the struct is one apart.
type plain struct {
	lines      []line // as they came, those of an open write too
	rev, floor int64
	open       bool
}

// isIn is chapter 1's words on a range.
func isIn(k, key, end string) bool {
	switch end {
	case "":
		return k == key
	case all:
		return k >= key
	}
	return key <= k && k < end
}

// isRight is chapter 13's words on a right record.
func isRight(x api.KV) bool {
	return len(x.Key) >= 1 && len(x.Key) <= 64 && len(x.Value) <= 1024 && 1 <= x.Create && x.Create <= x.Mod && x.Mod <= maxRev &&
		1 <= x.Version && x.Version <= maxRev && 0 <= x.Lease && x.Lease <= maxRev
}

// last is the place of a key's last line up to a revision; -1: it has none.
func (p plain) last(key string, at int64) int {
	for i, x := range slices.Backward(p.lines) {
		if x.rev.Main <= at && string(x.kv.Key) == key {
			return i
		}
	}
	return -1
}

// get is a key as it was at a revision.
func (p plain) get(key string, at int64) (api.KV, bool) {
	if i := p.last(key, at); i >= 0 && !p.lines[i].tomb {
		return p.lines[i].kv, true
	}
	return api.KV{}, false
}

// keys are all that ever were, rising.
func (p plain) keys() []string {
	var out []string
	for _, x := range p.lines {
		out = append(out, string(x.kv.Key))
	}
	slices.Sort(out)
	return slices.Compact(out)
}

// within: the keys of a range that are there at a revision.
func (p plain) within(key, end string, at int64) []api.KV {
	var out []api.KV
	for _, k := range p.keys() {
		if x, there := p.get(k, at); there && isIn(k, key, end) {
			out = append(out, x)
		}
	}
	return out
}

// scope: what Range tells.
func (p plain) scope(key, end string, at int64) ([]api.KV, api.Errno) {
	switch {
	case at > p.rev:
		return nil, api.ErrFuture
	case at == 0:
		return p.within(key, end, greatest), api.OK
	case at < p.floor:
		return nil, api.ErrCompacted
	}
	return p.within(key, end, at), api.OK
}

// event is what is told of a line.
func (p plain) event(x line) api.Event {
	e := api.Event{Kind: 1, KV: x.kv}
	if x.tomb {
		e = api.Event{Kind: 2, KV: api.KV{Key: x.kv.Key, Mod: x.rev.Main}}
	}
	if x.rev.Main-1 >= p.floor {
		e.Prev, e.Had = p.get(string(x.kv.Key), x.rev.Main-1)
	}
	return e
}

// events are those of a range's lines from one Main to another.
func (p plain) events(key, end string, from, to int64) []api.Event {
	var out []api.Event
	for _, x := range p.lines {
		if x.rev.Main >= from && x.rev.Main <= to && isIn(string(x.kv.Key), key, end) {
			out = append(out, p.event(x))
		}
	}
	return out
}

// since: what Since tells.
func (p plain) since(key, end string, main int64) ([]api.Event, api.Errno) {
	if main <= p.floor {
		return nil, api.ErrCompacted
	}
	return p.events(key, end, main, p.rev), api.OK
}

// begin: a write is opened.
func (p *plain) begin() api.Errno {
	switch {
	case p.open:
		return api.ErrArg
	case p.rev == maxRev:
		return api.ErrRevision
	}
	p.open = true
	return api.OK
}

// next is the revision of the open write's next change.
func (p plain) next() api.Rev {
	r := api.Rev{Main: p.rev + 1}
	for _, x := range p.lines {
		if x.rev.Main == r.Main {
			r.Sub++
		}
	}
	return r
}

// add: a line comes.
func (p *plain) add(x line) { p.lines = append(slices.Clip(p.lines), x) }

// put: what a Put tells.
func (p *plain) put(key, value string, lease int64) (api.KV, bool, api.Errno) {
	if !p.open {
		return api.KV{}, false, api.ErrArg
	}
	r := p.next()
	x := api.KV{Key: []byte(key), Value: []byte(value), Create: r.Main, Mod: r.Main, Version: 1, Lease: lease}
	prev, had := p.get(key, greatest)
	if had {
		x.Create, x.Version = prev.Create, prev.Version+1
	}
	if !isRight(x) {
		return api.KV{}, false, api.ErrForm
	}
	p.add(line{rev: r, kv: x})
	return prev, had, api.OK
}

// del: what a Delete tells.
func (p *plain) del(key, end string) ([]api.KV, api.Errno) {
	if !p.open {
		return nil, api.ErrArg
	}
	gone := p.within(key, end, greatest)
	for _, x := range gone {
		p.add(line{rev: p.next(), tomb: true, kv: api.KV{Key: x.Key}})
	}
	return gone, api.OK
}

// end: what an End tells.
func (p *plain) end() ([]api.Event, api.Errno) {
	if !p.open {
		return nil, api.ErrArg
	}
	if p.open = false; p.next().Sub == 0 {
		return nil, api.OK
	}
	p.rev++
	return p.events("", all, p.rev, p.rev), api.OK
}

// compact: what a Compact tells.
func (p *plain) compact(at int64) api.Errno {
	switch {
	case p.open:
		return api.ErrArg
	case at <= p.floor:
		return api.ErrCompacted
	case at > p.rev:
		return api.ErrFuture
	}
	p.floor = at
	return api.OK
}

// isTold: does Since tell this line, or Range, of any revision from the floor on? Of those up to the floor all that is told of a later revision is told of the floor, too.
func (p plain) isTold(i int) bool {
	x := p.lines[i]
	return x.rev.Main > p.floor || !x.tomb && p.last(string(x.kv.Key), p.floor) == i
}

// spent are the places of the lines that are told no more, and aren't swept yet.
func (p plain) spent() []int {
	var out []int
	for i, x := range p.lines {
		if !x.swept && !p.isTold(i) {
			out = append(out, i)
		}
	}
	return out
}

// gone: these lines are swept.
func (p *plain) gone(places []int) {
	p.lines = slices.Clone(p.lines)
	for _, i := range places {
		p.lines[i].swept = true
	}
}

// sweep: what a Sweep tells.
func (p *plain) sweep(n int) (int, bool, api.Errno) {
	if p.open || n < 1 {
		return 0, false, api.ErrArg
	}
	spent := p.spent()
	n = min(n, len(spent))
	p.gone(spent[:n])
	return n, n == len(spent), api.OK
}

// hash: what Hash tells.
func (p plain) hash() (uint32, api.Errno) {
	if p.open {
		return 0, api.ErrArg
	}
	b := binary.BigEndian.AppendUint64(nil, uint64(p.rev))
	b = binary.BigEndian.AppendUint64(b, uint64(p.floor))
	for _, x := range p.within("", all, greatest) {
		b = append(b, put(x)...)
	}
	return crc32.Checksum(b, crc32.MakeTable(crc32.Castagnoli)), api.OK
}

// eight are a number's bytes.
func eight(n int64) []byte { return binary.BigEndian.AppendUint64(nil, uint64(n)) }

// place is chapter 10's words on a revision's bytes.
func place(main, sub int64, sign string) []byte {
	return append(append(append(eight(main), '_'), eight(sub)...), sign...)
}

// put is chapter 13's words on a record's bytes.
func put(x api.KV) []byte {
	b := binary.BigEndian.AppendUint16([]byte{1}, uint16(len(x.Key)))
	b = append(b, x.Key...)
	for _, n := range []int64{x.Create, x.Mod, x.Version, x.Lease} {
		b = append(b, eight(n)...)
	}
	return append(binary.BigEndian.AppendUint16(b, uint16(len(x.Value))), x.Value...)
}

// tomb is chapter 13's words on a tombstone's bytes.
func tomb(key string) []byte {
	return append(binary.BigEndian.AppendUint16([]byte{2}, uint16(len(key))), key...)
}

// row is a change's bytes, and where they stand.
type row struct{ at, value []byte }

// rows are what stands in the bucket of changes.
func (p plain) rows() []row {
	var out []row
	for _, x := range p.lines {
		switch {
		case x.swept:
		case x.tomb:
			out = append(out, row{place(x.rev.Main, x.rev.Sub, "t"), tomb(string(x.kv.Key))})
		default:
			out = append(out, row{place(x.rev.Main, x.rev.Sub, ""), put(x.kv)})
		}
	}
	return out
}

// sameKV: are they the same?
func sameKV(a, b api.KV) bool {
	return bytes.Equal(a.Key, b.Key) && bytes.Equal(a.Value, b.Value) && a.Create == b.Create && a.Mod == b.Mod && a.Version == b.Version && a.Lease == b.Lease
}

// sameKVs: are they the same?
func sameKVs(a, b []api.KV) bool { return slices.EqualFunc(a, b, sameKV) }

// sameEvents: are they the same?
func sameEvents(a, b []api.Event) bool {
	return slices.EqualFunc(a, b, func(a, b api.Event) bool {
		return a.Kind == b.Kind && a.Had == b.Had && sameKV(a.KV, b.KV) && sameKV(a.Prev, b.Prev)
	})
}
