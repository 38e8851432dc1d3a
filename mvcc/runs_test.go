package mvcc_test

import (
	"fmt"
	"math/rand"
	"testing"

	"terrier/api"
	"terrier/db"
	"terrier/disk"
	"terrier/mvcc"
)

// run is a long run of anything, and what was saved in this transaction.
type run struct {
	*twin
	r     *rand.Rand
	saves []mvcc.Saved
	was   []plain
	told  []memo
	keys  int // how many there are to choose from
}

// memo is what Range told of a revision, as text.
type memo struct {
	at   int64
	told string
}

// key is any; now and then one that can't be.
func (u *run) key() string {
	switch n := u.r.Intn(u.keys + 1); {
	case n == u.keys && u.r.Intn(5) == 0:
		return text(n, []int{0, 65}[u.r.Intn(2)])
	case n%5 == 4:
		return text(n, 64)
	default:
		return fmt.Sprintf("k%d", n)
	}
}

// value is any; now and then one that is too long.
func (u *run) value() string {
	length := u.r.Intn(40)
	if u.r.Intn(5) == 0 {
		length = []int{0, 63, 64, 65, 300, 1024, 1025}[u.r.Intn(7)]
	}
	return text(u.r.Intn(256), length)
}

// scope is any range.
func (u *run) scope() scope {
	switch u.r.Intn(4) {
	case 0:
		return scope{u.key(), all}
	case 1:
		return scope{u.key(), u.key()}
	case 2:
		return scope{"", all}
	}
	return scope{u.key(), ""}
}

// revision is any, mostly one that there was.
func (u *run) revision() int64 { return u.r.Int63n(u.now.rev+4) - 1 }

// write is a whole write, of any changes, or none of it, if there is no room.
func (u *run) write(t *testing.T) api.Errno {
	t.Helper()
	u.begin(t)
	for range u.r.Intn(5) {
		key, value, lease := u.key(), u.value(), u.r.Int63n(3)
		x := u.scope()
		if u.r.Intn(3) == 0 {
			if e := u.tryDel(t, x.key, x.end); e != api.OK {
				return e
			}
			continue
		}
		want := u.now
		prev, had, wanted := want.put(key, value, lease)
		got, ok, e := u.s.Put([]byte(key), []byte(value), lease)
		if e == api.ErrNoSpace && wanted == api.OK {
			return e
		}
		if e != wanted || ok != had || !sameKV(got, prev) {
			t.Fatalf("Put(%q): %v, %v, %d; want %v, %v, %d", key, got, ok, e, prev, had, wanted)
		}
		u.now = want
		if u.r.Intn(4) == 0 {
			u.mustRange(t, "in a write", x, u.revision())
			u.mustSince(t, "in a write", x, u.revision())
			u.mustRange(t, "in a write", x, 0)
		}
	}
	return u.tryEnd(t)
}

// step does one act.
func (u *run) step(t *testing.T) {
	t.Helper()
	switch n := u.r.Intn(60); {
	case n < 28:
		u.whole(t, func() api.Errno { return u.write(t) })
	case n < 32:
		u.tryCompact(t, u.now.floor+u.r.Int63n(u.now.rev-u.now.floor+3)-1)
	case n < 40:
		u.trySweep(t, 1+u.r.Intn(8)*u.r.Intn(8))
	case n < 44:
		u.saves, u.was = append(u.saves, u.s.Save()), append(u.was, u.now)
	case n < 46:
		if len(u.saves) > 0 {
			i := u.r.Intn(len(u.saves))
			u.s.Back(u.saves[i])
			u.now = u.was[i]
			u.forget()
		}
	case n < 52:
		u.commit(t)
		u.saves, u.was = nil, nil
	case n < 54:
		u.move(t)
	case n < 57:
		u.reopen(t)
		u.saves, u.was = nil, nil
		u.forget()
	default:
		u.crash(t)
		u.forget()
	}
}

// move moves it to a disk of any size, if there is room.
func (u *run) move(t *testing.T) {
	t.Helper()
	d := disk.New(max(8, u.d.Size()+u.r.Intn(20)-8))
	if e := u.s.Move(d); e != api.OK {
		mustBe(t, "Move", e, api.ErrNoSpace)
		return
	}
	u.d, u.base = d, u.now
	u.saves, u.was = nil, nil
}

// crash lets the power go in a commit, and opens what is left.
func (u *run) crash(t *testing.T) {
	t.Helper()
	txn := u.s.Base().Txn()
	u.d.Fuse(u.r.Intn(20 + 20*u.r.Intn(2)))
	told := u.s.Base().Commit()
	var keep []disk.Keep
	for _, id := range u.d.Cached() {
		keep = append(keep, disk.Keep{Page: id, Bytes: []int{0, 256, u.r.Intn(257)}[u.r.Intn(3)]})
	}
	u.d.Crash(keep...)
	b, e := db.Open(u.d)
	mustBe(t, "db.Open", e, api.OK)
	if b.Txn() != txn {
		u.base = u.now
	} else if told == api.OK {
		t.Fatal("a commit that was told is gone")
	}
	u.s, u.now = open(t, b), u.base
	u.saves, u.was = nil, nil
}

// forget: what was told of revisions that aren't any more is gone.
func (u *run) forget() {
	var kept []memo
	for _, m := range u.told {
		if m.at <= u.now.rev {
			kept = append(kept, m)
		}
	}
	u.told = kept
}

// remember asks again what was asked of each revision that is kept, and asks for the last one.
func (u *run) remember(t *testing.T) {
	t.Helper()
	for _, m := range u.told {
		if m.at >= u.now.floor {
			got, e := u.s.Range(nil, []byte(all), m.at)
			if e != api.OK || fmt.Sprint(got) != m.told {
				t.Fatalf("at %d it tells %v, %d; it told %s", m.at, got, e, m.told)
			}
		}
	}
	if n := len(u.told); u.now.rev > 0 && u.now.rev >= u.now.floor && (n == 0 || u.told[n-1].at < u.now.rev) {
		got, e := u.s.Range(nil, []byte(all), u.now.rev)
		mustBe(t, "Range", e, api.OK)
		u.told = append(u.told, memo{u.now.rev, fmt.Sprint(got)})
	}
}

// TestRuns: P15.1 to P15.6, long runs of all that there is, beside a plain store, with disks that are full, commits, crashes and openings between.
func TestRuns(t *testing.T) {
	for seed := range 60 {
		r := rand.New(rand.NewSource(int64(seed)))
		u := &run{twin: twinOf(t, []int{12, 20, 35, 61, 100, 200}[seed%6]), r: r, keys: []int{3, 8, 20}[seed/6%3]}
		for n := range 150 {
			u.step(t)
			u.mustTellOf(t, "behind an act", []scope{u.scope()}, []int64{0, u.revision(), u.revision(), u.now.floor, u.now.floor + 1, u.now.rev, greatest})
			if n%10 == 9 {
				u.remember(t)
			}
		}
		u.mustTell(t, "at the end")
	}
}
