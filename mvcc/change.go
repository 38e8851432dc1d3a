package mvcc

import (
	"terrier/api"
	"terrier/gens"
	"terrier/record"
	"terrier/rev"
)

// change is a change of a key, as it stands in the bucket of changes.
type change struct {
	rev  api.Rev
	tomb bool
	kv   api.KV // of a tombstone the key alone
}

// readChange: the change of these bytes, which stand under those of a revision; false: they are none's.
func readChange(at, value []byte) (change, bool) {
	r, tomb, noRev := rev.Decode(at)
	kv, gone, noRecord := record.Decode(value)
	if noRev != api.OK || noRecord != api.OK || gone != tomb || !tomb && kv.Mod != r.Main {
		return change{}, false
	}
	return change{r, tomb, kv}, true
}

// found: what a history tells of a put.
func (c change) found() gens.Found {
	return gens.Found{Mod: c.rev, Create: c.kv.Create, Version: c.kv.Version}
}

// lay: a change stands in the bucket of changes, in these bytes.
func (s *Store) lay(r api.Rev, tomb bool, value []byte) api.Errno {
	return s.base.Put(keys, place(r, tomb), value)
}

// place: where a change stands. Its revision is right, as it is in the index, or comes next.
func place(r api.Rev, tomb bool) []byte {
	at, _ := rev.Encode(r, tomb)
	return at
}

// record: what was put at a revision.
func (s *Store) record(r api.Rev) (api.KV, api.Errno) {
	at := place(r, false)
	value, _, err := s.base.Get(keys, at)
	if err != api.OK {
		return api.KV{}, err
	}
	c, right := readChange(at, value) // no bytes aren't right, either
	if !right {
		return api.KV{}, api.ErrForm
	}
	return c.kv, api.OK
}
