package db_test

import (
	"math/rand"
	"testing"

	"terrier/api"
	"terrier/db"
	"terrier/disk"
)

// run is a long run of anything, and what was saved in this transaction.
type run struct {
	*twin
	r     *rand.Rand
	saves []db.Saved
	was   []plain
	kind  int
}

// name is any bucket's, of the sort of this run; mostly one that is there.
func (u *run) name() string {
	if len(u.now) > 0 && u.r.Intn(3) > 0 {
		return u.now[u.r.Intn(len(u.now))].name
	}
	if u.kind == 0 {
		return wide(u.r.Intn(60))
	}
	return string(text(u.r.Intn(6), 1+u.r.Intn(3)))
}

// key is any, of the sort of this run; often one that is there.
func (u *run) key(name string) string {
	if l := u.now.of(name); len(l) > 0 && u.r.Intn(2) == 0 {
		return string(l[u.r.Intn(len(l))].Key)
	}
	return []string{long(u.r.Intn(40)), string(text(u.r.Intn(40), u.r.Intn(33)))}[u.kind%2]
}

// value is any.
func (u *run) value() []byte {
	if u.r.Intn(4) > 0 {
		return text(u.r.Intn(256), u.r.Intn(65))
	}
	return text(u.r.Intn(256), lengths()[u.r.Intn(len(lengths())-3*u.r.Intn(2))])
}

// step does one act.
func (u *run) step(t *testing.T) {
	t.Helper()
	name := u.name()
	switch n := u.r.Intn(60); {
	case n < 24:
		u.tryPut(t, name, u.key(name), u.value(), false)
	case n < 42:
		u.tryDelete(t, name, u.key(name), false)
	case n < 46:
		u.mustGet(t, name, u.key(name))
		from, to := []byte(u.key(name)), []byte(u.key(name))
		limit := u.r.Intn(9) - 2
		mustWalk(t, u.b, name, from, to, limit, u.now.of(name).between(from, to, limit))
	case n < 49:
		u.saves, u.was = append(u.saves, u.b.Save()), append(u.was, u.now)
	case n < 51:
		if len(u.saves) > 0 {
			i := u.r.Intn(len(u.saves))
			u.b.Back(u.saves[i])
			u.now = u.was[i]
		}
	case n < 55:
		u.commit(t)
		u.saves, u.was = nil, nil
	case n < 57:
		u.copied(t)
	default:
		u.crash(t)
	}
	u.mustTell(t, "behind an act")
}

// copied copies it, to a disk of any size, and now and then goes on with the copy.
func (u *run) copied(t *testing.T) {
	t.Helper()
	size := max(8, u.d.Size()+u.r.Intn(60)-20)
	d := disk.New(size)
	c, e := u.b.Copy(d)
	if chain := (size - 2 + 59) / 60; e != api.OK { // a copy has no more pages, but for a few where its Branches have other Keys
		if mustBe(t, "Copy", e, api.ErrNoSpace); c != nil || size >= 2+chain+u.b.Pages()+size/60+2+4 {
			t.Fatalf("no Copy of %d pages to a disk of %d: %v", u.b.Pages(), size, c)
		}
		return
	}
	mustHave(t, "the copy", c, u.now)
	if u.r.Intn(2) == 0 {
		u.mustTell(t, "behind Copy")
		*u.twin = twin{d: d, b: c, now: u.now, base: u.now, txn: 2}
		u.saves, u.was = nil, nil
		u.mustStand(t, c.Pages())
	}
}

// crash lets the power go in a commit, and opens what is left: the last commit, or the one under way.
func (u *run) crash(t *testing.T) {
	t.Helper()
	u.d.Fuse(u.r.Intn(20 + 20*u.r.Intn(2)))
	told := u.b.Commit()
	var keep []disk.Keep
	for _, id := range u.d.Cached() {
		keep = append(keep, disk.Keep{Page: id, Bytes: []int{0, 256, u.r.Intn(257)}[u.r.Intn(3)]})
	}
	u.d.Crash(keep...)
	b, e := db.Open(u.d)
	mustBe(t, "Open", e, api.OK)
	if b.Txn() != u.txn {
		u.base, u.txn = u.now, u.txn+1
	} else if told == api.OK {
		t.Fatal("a commit that was told is gone")
	}
	u.b, u.now = b, u.base
	u.mustTell(t, "behind a crash")
	u.mustStand(t, b.Pages())
	u.saves, u.was = nil, nil
}

// TestRuns: P9.1 to P9.4, long runs of all that there is, beside plain buckets.
func TestRuns(t *testing.T) {
	for seed := range 40 {
		r := rand.New(rand.NewSource(int64(seed)))
		size := []int{12, 30, 61, 100, 130, 200}[seed%6]
		u := &run{twin: twinOf(t, size), r: r, kind: seed / 6 % 3}
		for range 250 {
			u.step(t)
		}
	}
}
