package free_test

import (
	"math/rand"
	"slices"
	"testing"

	"terrier/api"
	"terrier/free"
)

// What a page of a plain list is.
const (
	neither = iota
	spare
	held
)

// plain is a list as the chapter's words say it: each page of the disk is spare, held, or neither.
type plain []int

// become: a page that is neither is this now; so both Give and Hold.
func (p plain) become(id, what int) api.Errno {
	switch {
	case id < 2 || id >= len(p):
		return api.ErrRange
	case p[id] != neither:
		return api.ErrExist
	}
	p[id] = what
	return api.OK
}

func (p plain) take() (int, api.Errno) {
	for id := range p {
		if p[id] == spare {
			p[id] = neither
			return id, api.OK
		}
	}
	return 0, api.ErrNoSpace
}

func (p plain) settle() {
	for id := range p {
		if p[id] == held {
			p[id] = spare
		}
	}
}

// those are the pages that are this.
func (p plain) those(what int) []int {
	var ids []int
	for id := range p {
		if p[id] == what {
			ids = append(ids, id)
		}
	}
	return ids
}

// mustBeLike asks that a list and a plain one have the same in them.
func mustBeLike(t *testing.T, l *free.List, p plain) {
	t.Helper()
	mustHave(t, l, p.those(spare), p.those(held))
}

// mustTakeLike takes of both.
func mustTakeLike(t *testing.T, l *free.List, p plain) (int, api.Errno) {
	t.Helper()
	id, e := l.Take()
	if want, f := p.take(); id != want || e != f {
		t.Fatalf("Take: %d, %d; want %d, %d", id, e, want, f)
	}
	return id, e
}

// built is a list like a plain one; its numbers are told and held by this order.
func built(t *testing.T, p plain, order []int) *free.List {
	t.Helper()
	var ids []int
	for _, id := range order {
		if p[id] == spare {
			ids = append(ids, id)
		}
	}
	l := made(t, len(p), ids...)
	for _, id := range order {
		if p[id] == held {
			mustBe(t, "Hold", l.Hold(id), api.OK)
		}
	}
	return l
}

// given is the same list, of which each spare number is given.
func given(t *testing.T, p plain, order []int) *free.List {
	t.Helper()
	l := made(t, len(p))
	for _, id := range order {
		if p[id] == spare {
			mustBe(t, "Give", l.Give(id), api.OK)
		}
		if p[id] == held {
			mustBe(t, "Hold", l.Hold(id), api.OK)
		}
	}
	return l
}

// settled is the same list, of which each spare number was held.
func settled(t *testing.T, p plain, order []int) *free.List {
	t.Helper()
	l := made(t, len(p))
	for _, id := range order {
		if p[id] == spare {
			mustBe(t, "Hold", l.Hold(id), api.OK)
		}
	}
	l.Settle()
	for _, id := range order {
		if p[id] == held {
			mustBe(t, "Hold", l.Hold(id), api.OK)
		}
	}
	return l
}

// allPlain goes through all that a disk of 8 pages may have: each of its pages from 2 on is spare, held or neither.
func allPlain(yield func(plain) bool) {
	for n := range 729 {
		p := make(plain, 8)
		for id := 2; id < 8; id++ {
			p[id] = n % 3
			n /= 3
		}
		if !yield(p) {
			return
		}
	}
}

// TestEveryList: P6.1 to P6.3, of every list of 8 pages every act, beside the chapter's words.
func TestEveryList(t *testing.T) {
	for p := range allPlain {
		l := built(t, p, upTo(8))
		mustBeLike(t, l, p)
		for id := -1; id <= 9; id++ {
			for _, what := range []int{spare, held} {
				m, q := l.Copy(), slices.Clone(p)
				act := m.Give
				if what == held {
					act = m.Hold
				}
				mustBe(t, "Give or Hold", act(id), q.become(id, what))
				mustBeLike(t, m, q)
				mustTakeLike(t, m, q)
				mustBeLike(t, m, q)
			}
		}
		m, q := l.Copy(), slices.Clone(p)
		for range 7 {
			mustTakeLike(t, m, q)
			mustBeLike(t, m, q)
		}
		m.Settle()
		q.settle()
		for range 7 {
			mustBeLike(t, m, q)
			mustTakeLike(t, m, q)
		}
		l.Settle()
		p.settle()
		mustBeLike(t, l, p)
	}
}

// TestOrder: P6.1 and P6.2, the order in which numbers are told, given or held counts for nothing.
func TestOrder(t *testing.T) {
	r := rand.New(rand.NewSource(6))
	ways := []func(*testing.T, plain, []int) *free.List{built, given, settled}
	for p := range allPlain {
		for range 3 {
			order := upTo(8)
			r.Shuffle(len(order), func(i, j int) { order[i], order[j] = order[j], order[i] })
			for _, way := range ways {
				l, q := way(t, p, order), slices.Clone(p)
				mustBeLike(t, l, q)
				mustTakeLike(t, l, q)
				l.Settle()
				q.settle()
				mustBeLike(t, l, q)
			}
		}
	}
}

// TestAllOrders: P6.1 and P6.2, five numbers in each order that they may have.
func TestAllOrders(t *testing.T) {
	for n := range 120 {
		var order []int
		for i := range 5 {
			order = slices.Insert(order, n%(i+1), i+3)
			n /= i + 1
		}
		l := made(t, 8, order...)
		mustHave(t, l, []int{3, 4, 5, 6, 7}, nil)
		mustTake(t, l, 3, 4, 5, 6, 7)
		for _, id := range order {
			mustBe(t, "Hold", l.Hold(id), api.OK)
		}
		mustHave(t, l, nil, []int{3, 4, 5, 6, 7})
		l.Settle()
		mustTake(t, l, 3, 4, 5, 6, 7)
		mustBeEmpty(t, l)
	}
}

// out are the pages that were taken and neither given nor settled since.
type out map[int]bool

// step does one act to both, and asks that they answer alike; P6.3: nothing is taken twice, and nothing that is held.
func step(t *testing.T, r *rand.Rand, l *free.List, p plain, o out) {
	t.Helper()
	id := r.Intn(len(p)+6) - 3
	switch r.Intn(40) {
	case 0:
		for _, id := range p.those(held) {
			delete(o, id)
		}
		l.Settle()
		p.settle()
	case 1, 2, 3, 4, 5, 6, 7, 8, 9, 10, 11, 12:
		was := l.Held()
		id, e := mustTakeLike(t, l, p)
		if o[id] || slices.Contains(was, id) {
			t.Fatalf("Take: %d, which was taken, or is held", id)
		}
		if e == api.OK {
			o[id] = true
		}
	case 13, 14, 15, 16, 17, 18, 19, 20, 21, 22, 23, 24:
		mustBe(t, "Hold", l.Hold(id), p.become(id, held))
	default:
		e := l.Give(id)
		mustBe(t, "Give", e, p.become(id, spare))
		if e == api.OK {
			delete(o, id)
		}
	}
}

// TestWalk: P6.1 to P6.3, long runs of acts beside the chapter's words; from time to time a copy goes on in the list's place.
func TestWalk(t *testing.T) {
	for seed := range 60 {
		r := rand.New(rand.NewSource(int64(seed)))
		size := sizes()[seed%len(sizes())]
		p, o := make(plain, size), out{}
		for id := 2; id < size; id++ {
			p[id] = r.Intn(3)
		}
		l := built(t, p, upTo(size))
		for range 1500 {
			step(t, r, l, p, o)
			mustBeLike(t, l, p)
			if r.Intn(30) == 0 {
				was := l
				l = l.Copy()
				was.Settle()
				was.Take()
			}
		}
	}
}

// TestDrained: P6.2 and P6.3, long runs in which all is taken, held and settled, or given, again and again.
func TestDrained(t *testing.T) {
	for _, size := range sizes() {
		r := rand.New(rand.NewSource(int64(size)))
		l := made(t, size, upTo(size)...)
		p := make(plain, size)
		for _, id := range upTo(size) {
			p[id] = spare
		}
		for range 4 {
			for e := api.OK; e == api.OK; {
				_, e = mustTakeLike(t, l, p)
			}
			for _, i := range r.Perm(size - 2) {
				what, act := spare, l.Give
				if r.Intn(2) == 0 {
					what, act = held, l.Hold
				}
				mustBe(t, "Give or Hold", act(i+2), p.become(i+2, what))
			}
			mustBeLike(t, l, p)
			l.Settle()
			p.settle()
			mustHave(t, l, upTo(size), nil)
		}
	}
}
