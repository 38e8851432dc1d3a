package mvcc

import (
	"slices"

	"terrier/api"
	"terrier/index"
	"terrier/record"
	"terrier/sum"
)

// all: the end of a range that has all keys from its first one on.
func all() []byte { return []byte{0} }

// Range: the keys of a range that are there.
func (s *Store) Range(key, end []byte, at int64) ([]api.KV, api.Errno) {
	switch {
	case s == nil:
		return nil, api.ErrArg
	case at > s.rev:
		return nil, api.ErrFuture
	case at == 0:
		at = s.next()
	case at < s.floor:
		return nil, api.ErrCompacted
	}
	return s.records(s.index.Range(key, end, at))
}

// records: what was put at these revisions.
func (s *Store) records(hits []index.Hit) ([]api.KV, api.Errno) {
	var out []api.KV
	for _, hit := range hits {
		kv, err := s.record(hit.Found.Mod)
		if err != api.OK {
			return nil, err
		}
		out = append(out, kv)
	}
	return out, api.OK
}

// Since: the events of a range from a revision on.
func (s *Store) Since(key, end []byte, main int64) ([]api.Event, api.Errno) {
	switch {
	case s == nil:
		return nil, api.ErrArg
	case main <= s.floor:
		return nil, api.ErrCompacted
	}
	closed := slices.DeleteFunc(s.index.Since(key, end, main), func(c index.Change) bool { return c.Rev.Main > s.rev })
	return s.events(closed)
}

// events: those of these changes, all of them above the floor.
func (s *Store) events(changes []index.Change) ([]api.Event, api.Errno) {
	var out []api.Event
	for _, c := range changes {
		e, err := s.event(c)
		if err != api.OK {
			return nil, err
		}
		out = append(out, e)
	}
	return out, api.OK
}

// event: that of a change above the floor. So the revision ahead of its own isn't below it: what was there then is known.
func (s *Store) event(c index.Change) (api.Event, api.Errno) {
	e, err := api.Event{Kind: api.Deleted, KV: api.KV{Key: c.Key, Mod: c.Rev.Main}}, api.OK
	if !c.Tomb {
		e.Kind = api.Put
		e.KV, err = s.record(c.Rev)
	}
	if err != api.OK {
		return api.Event{}, err
	}
	was, there := s.index.Get(c.Key, c.Rev.Main-1)
	if there {
		e.Had = true
		e.Prev, err = s.record(was.Mod)
	}
	return e, err
}

// Hash: a checksum of all that is there.
func (s *Store) Hash() (uint32, api.Errno) {
	if !s.idle() {
		return 0, api.ErrArg
	}
	there, err := s.Range(nil, all(), 0)
	if err != api.OK {
		return 0, err
	}
	parts := [][]byte{number(s.rev), number(s.floor)}
	for _, kv := range there {
		bytes, _ := record.Encode(kv) // it is right, as it was read
		parts = append(parts, bytes)
	}
	return sum.Sum(parts...), api.OK
}
