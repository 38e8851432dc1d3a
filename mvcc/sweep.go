package mvcc

import (
	"slices"

	"terrier/api"
	"terrier/rev"
)

// Compact: what was below a revision is told no more.
func (s *Store) Compact(at int64) api.Errno {
	switch {
	case !s.idle():
		return api.ErrArg
	case at <= s.floor:
		return api.ErrCompacted
	case at > s.rev:
		return api.ErrFuture
	}
	if err := s.note(floorName, at); err != api.OK {
		return err
	}
	s.index.Compact(at)
	s.floor = at
	return api.OK
}

// Sweep: takes away what is told no more.
func (s *Store) Sweep(n int) (int, bool, api.Errno) {
	if !s.idle() || n < 1 {
		return 0, false, api.ErrArg
	}
	if s.done == s.floor {
		return 0, true, api.OK
	}
	spent, err := s.spent()
	if err != api.OK {
		return 0, false, err
	}
	n = min(n, len(spent))
	if err := s.take(spent[:n], n == len(spent)); err != api.OK {
		return 0, false, err
	}
	return n, n == len(spent), api.OK
}

// spent: where the changes stand that are told no more, rising.
func (s *Store) spent() ([][]byte, api.Errno) {
	pairs, err := s.base.Walk(keys, nil, rev.Low(s.floor+1), 0)
	if err != api.OK {
		return nil, err
	}
	kept := s.index.Keep(s.floor)
	var out [][]byte
	for _, pair := range pairs {
		r, tomb, err := rev.Decode(pair.Key)
		if err != api.OK {
			return nil, api.ErrForm
		}
		// A tombstone up to the floor is told by nothing, whatever else has its revision.
		if _, told := slices.BinarySearchFunc(kept, r, rev.Compare); tomb || !told {
			out = append(out, pair.Key)
		}
	}
	return out, api.OK
}

// take: these changes are gone, and if they are the last ones, all is swept. Where there is no room for all of it, what was done stays, as that may be a way to more room.
func (s *Store) take(spent [][]byte, last bool) api.Errno {
	was := s.base.Save()
	err := s.remove(spent)
	if err == api.OK && last {
		err = s.note(doneName, s.floor)
	}
	switch {
	case err != api.OK && err != api.ErrNoSpace:
		s.base.Back(was)
	case err == api.OK && last:
		s.done = s.floor
	}
	return err
}

// remove: these changes are gone. Beside an error some are.
func (s *Store) remove(spent [][]byte) api.Errno {
	for _, at := range spent {
		if _, err := s.base.Delete(keys, at); err != api.OK {
			return err
		}
	}
	return api.OK
}
