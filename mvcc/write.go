package mvcc

import (
	"terrier/api"
	"terrier/index"
	"terrier/record"
)

// Begin: a write is opened.
func (s *Store) Begin() api.Errno {
	if !s.idle() {
		return api.ErrArg
	}
	if s.rev == api.MaxRev {
		return api.ErrRevision
	}
	s.open, s.subs = true, 0
	return api.OK
}

// next: the Main of the next write, or of the one that is open: up to it is all that there is now.
func (s *Store) next() int64 { return s.rev + 1 }

// revision: that of the open write's next change but so many.
func (s *Store) revision(ahead int) api.Rev {
	return api.Rev{Main: s.next(), Sub: s.subs + int64(ahead)}
}

// Put: a key has a value.
func (s *Store) Put(key, value []byte, lease int64) (api.KV, bool, api.Errno) {
	if !s.writing() {
		return api.KV{}, false, api.ErrArg
	}
	now := api.KV{Key: key, Value: value, Create: s.next(), Mod: s.next(), Version: 1, Lease: lease}
	was, there := s.index.Get(key, s.next())
	if there {
		now.Create, now.Version = was.Create, was.Version+1
	}
	bytes, err := record.Encode(now)
	if err != api.OK {
		return api.KV{}, false, err
	}
	var prev api.KV
	if there {
		prev, err = s.record(was.Mod)
	}
	if err == api.OK {
		err = s.lay(s.revision(0), false, bytes)
	}
	if err != api.OK {
		return api.KV{}, false, err
	}
	s.index.Put(key, s.revision(0)) // it comes next, as all that is in the index came ahead of it
	s.subs++
	return prev, there, api.OK
}

// Delete: the keys of a range are gone.
func (s *Store) Delete(key, end []byte) ([]api.KV, api.Errno) {
	if !s.writing() {
		return nil, api.ErrArg
	}
	hits := s.index.Range(key, end, s.next())
	gone, err := s.records(hits)
	if err != api.OK {
		return nil, err
	}
	was := s.base.Save()
	if err := s.layTombs(hits); err != api.OK {
		s.base.Back(was)
		return nil, err
	}
	for _, hit := range hits {
		s.index.Tomb(hit.Key, s.revision(0)) // as a Put's; and the key is there
		s.subs++
	}
	return gone, api.OK
}

// layTombs: tombstones of keys stand in the bucket of changes. Beside an error some may.
func (s *Store) layTombs(hits []index.Hit) api.Errno {
	for i, hit := range hits {
		bytes, _ := record.Tomb(hit.Key) // a right key, as there is a record of it
		if err := s.lay(s.revision(i), true, bytes); err != api.OK {
			return err
		}
	}
	return api.OK
}

// End: a write is closed.
func (s *Store) End() ([]api.Event, api.Errno) {
	if !s.writing() {
		return nil, api.ErrArg
	}
	if s.subs == 0 {
		s.open = false
		return nil, api.OK
	}
	told, err := s.events(s.index.Since(nil, all(), s.next()))
	if err == api.OK {
		err = s.note(revName, s.next())
	}
	if err != api.OK {
		return nil, err
	}
	s.open, s.rev = false, s.next()
	return told, api.OK
}
