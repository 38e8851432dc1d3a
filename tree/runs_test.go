package tree_test

import (
	"math/rand"
	"testing"

	"terrier/api"
	"terrier/disk"
	"terrier/pager"
)

// run is a long run of anything, and what was saved in this transaction.
type run struct {
	*twin
	r     *rand.Rand
	saves []pager.Saved
	was   []twin
	kind  int
}

// key is any, of the sort of this run.
func (u *run) key() string {
	if len(u.list) > 0 && u.r.Intn(3) == 0 {
		return string(u.list[u.r.Intn(len(u.list))].Key)
	}
	switch u.kind {
	case 0:
		return short(u.r.Intn(300))
	case 1:
		return long(u.r.Intn(100))
	case 2:
		return string(text(u.r.Intn(40), u.r.Intn(33)))
	}
	return long(u.r.Intn(60))[u.r.Intn(33):]
}

// value is any.
func (u *run) value() []byte {
	if u.r.Intn(4) > 0 {
		return text(u.r.Intn(256), u.r.Intn(65))
	}
	return text(u.r.Intn(256), lengths()[u.r.Intn(len(lengths())-6*u.r.Intn(2))])
}

// step does one act.
func (u *run) step(t *testing.T) {
	t.Helper()
	switch n := u.r.Intn(60); {
	case n < 26:
		u.tryPut(t, u.key(), u.value())
	case n < 44:
		u.tryDelete(t, u.key())
	case n < 48:
		u.mustGet(t, u.key())
		from, to := []byte(u.key()), []byte(u.key())
		limit := u.r.Intn(9) - 2
		mustWalk(t, u.p, u.root, from, to, limit, u.list.between(from, to, limit))
	case n < 51:
		u.saves, u.was = append(u.saves, u.p.Save()), append(u.was, u.apart())
	case n < 53:
		if len(u.saves) > 0 {
			i := u.r.Intn(len(u.saves))
			u.p.Back(u.saves[i])
			*u.twin = u.was[i].apart()
		}
	case n < 57:
		u.commit(t)
		u.saves, u.was = nil, nil
	default:
		u.crash(t)
	}
}

// crash lets the power go in a commit, and opens what is left: the last commit, or the one under way.
func (u *run) crash(t *testing.T) {
	t.Helper()
	next, root := u.list, u.root
	u.p.SetRoot(u.root)
	u.d.Fuse(u.r.Intn(len(u.fresh) + 6))
	txn := u.p.Txn()
	told := u.p.Commit()
	var keep []disk.Keep
	for _, id := range u.d.Cached() {
		keep = append(keep, disk.Keep{Page: id, Bytes: []int{0, 256, u.r.Intn(257)}[u.r.Intn(3)]})
	}
	u.d.Crash(keep...)
	p, e := pager.Open(u.d)
	mustBe(t, "Open", e, api.OK)
	if p.Txn() != txn {
		u.base = next
	} else if told == api.OK {
		t.Fatal("a commit that was told is gone")
	}
	if p.Txn() != txn && p.Root() != root {
		t.Fatalf("the root %d; want %d", p.Root(), root)
	}
	u.p, u.root, u.list = p, p.Root(), u.base
	u.committed(t)
	u.saves, u.was = nil, nil
}

// TestRuns: P8.1 to P8.5, long runs with commits, crashes, openings, Save and Back between, beside a plain list.
func TestRuns(t *testing.T) {
	for seed := range 60 {
		r := rand.New(rand.NewSource(int64(seed)))
		size := []int{20, 40, 62, 100, 130, 200}[seed%6]
		u := &run{twin: twinOf(t, size), r: r, kind: seed / 6 % 4}
		u.commit(t)
		for range 250 {
			u.step(t)
			if r.Intn(5) == 0 {
				u.mustKeep(t)
			}
		}
	}
}

// TestElder: P8.4, the elder root tells the same behind changes, behind the commit of the next one, and behind an opening; later its pages may be written again.
func TestElder(t *testing.T) {
	w := twinOf(t, 300)
	for i := range 40 {
		elder, had := w.root, w.list
		for j := range 1 + i%9 {
			w.put(t, short((i+j)%37), text(i, (i*7+j*40)%300))
			w.delete(t, short(i*5%37+j))
			mustHave(t, "the elder root", w.p, elder, had)
		}
		w.commit(t)
		mustHave(t, "the elder root, behind a commit", w.p, elder, had)
		w.reopen(t)
		mustHave(t, "the elder root, behind an opening", w.p, elder, had)
	}
}
