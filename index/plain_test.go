package index_test

import (
	"math"
	"slices"
	"testing"

	"terrier/api"
	"terrier/gens"
	"terrier/index"
)

const (
	maxRev   = 4611686018427387904 // 2^62, as the document says
	least    = math.MinInt64
	greatest = math.MaxInt64
	all      = "\x00" // the end of the range of all keys from one on
)

// line is one revision of a plain index: whose, and of a put what the chapter's words say of it.
type line struct {
	key             string
	rev             api.Rev
	tomb            bool
	create, version int64
}

// plain is an index as the chapters' words say it: all lines that are kept, as they came, and the last revision of all.
type plain struct {
	lines []line
	last  api.Rev
}

// at is a revision, by its two numbers.
func at(main, sub int64) api.Rev { return api.Rev{Main: main, Sub: sub} }

// isRight is chapter 10's words on a right revision.
func isRight(r api.Rev) bool {
	return 1 <= r.Main && r.Main <= maxRev && 0 <= r.Sub && r.Sub <= maxRev
}

// isIn is chapter 1's words on a range.
func isIn(k, key, end string) bool {
	switch end {
	case "":
		return k == key
	case all:
		return k >= key
	}
	return key <= k && k < end
}

func (p plain) copy() plain { return plain{slices.Clone(p.lines), p.last} }

// afresh: is it above the last revision?
func (p plain) afresh(r api.Rev) bool {
	return p.last == api.Rev{} || r.Main > p.last.Main || r.Main == p.last.Main && r.Sub > p.last.Sub
}

// before is a key's last line whose Main is at most n, and its place; -1 if it has none.
func (p plain) before(key string, n int64) (line, int) {
	for i, x := range slices.Backward(p.lines) {
		if x.key == key && x.rev.Main <= n {
			return x, i
		}
	}
	return line{}, -1
}

// isThere: is the key there now?
func (p plain) isThere(key string) bool {
	x, i := p.before(key, greatest)
	return i >= 0 && !x.tomb
}

// following is what is told of a put that comes next.
func (p plain) following(key string, r api.Rev) gens.Found {
	x, _ := p.before(key, greatest)
	switch {
	case !p.isThere(key):
		return gens.Found{Mod: r, Create: r.Main, Version: 1}
	case x.version == greatest:
		return gens.Found{Mod: r, Create: x.create, Version: least}
	}
	return gens.Found{Mod: r, Create: x.create, Version: x.version + 1}
}

// add: a line comes, where nothing stands against it.
func (p *plain) add(err api.Errno, x line) api.Errno {
	if err == api.OK {
		p.lines, p.last = append(p.lines, x), x.rev
	}
	return err
}

// mayCome: may any change of this revision come?
func (p plain) mayCome(r api.Rev) api.Errno {
	switch {
	case !isRight(r):
		return api.ErrRange
	case !p.afresh(r):
		return api.ErrExist
	}
	return api.OK
}

func (p *plain) put(key string, r api.Rev) api.Errno {
	f := p.following(key, r)
	return p.add(p.mayCome(r), line{key, r, false, f.Create, f.Version})
}

func (p *plain) tomb(key string, r api.Rev) api.Errno {
	err := p.mayCome(r)
	if err == api.OK && !p.isThere(key) {
		err = api.ErrNone
	}
	return p.add(err, line{key: key, rev: r, tomb: true})
}

func (p *plain) restore(key string, f gens.Found, tomb bool) api.Errno {
	if tomb {
		return p.tomb(key, f.Mod)
	}
	err := p.mayCome(f.Mod)
	switch {
	case f.Create < 1 || f.Create > f.Mod.Main || f.Version < 1:
		err = api.ErrRange
	case err == api.OK && p.isThere(key) && f != p.following(key, f.Mod):
		err = api.ErrForm
	}
	return p.add(err, line{key, f.Mod, false, f.Create, f.Version})
}

func (p plain) get(key string, n int64) (gens.Found, bool) {
	x, i := p.before(key, n)
	if i < 0 || x.tomb {
		return gens.Found{}, false
	}
	return gens.Found{Mod: x.rev, Create: x.create, Version: x.version}, true
}

// keys are those that have a history, rising.
func (p plain) keys() []string {
	var out []string
	for _, x := range p.lines {
		out = append(out, x.key)
	}
	slices.Sort(out)
	return slices.Compact(out)
}

func (p plain) within(key, end string, n int64) []index.Hit {
	var out []index.Hit
	for _, k := range p.keys() {
		if f, there := p.get(k, n); there && isIn(k, key, end) {
			out = append(out, index.Hit{Key: []byte(k), Found: f})
		}
	}
	return out
}

func (p plain) since(key, end string, main int64) []index.Change {
	var out []index.Change
	for _, x := range p.lines {
		if x.rev.Main >= main && isIn(x.key, key, end) {
			out = append(out, index.Change{Key: []byte(x.key), Rev: x.rev, Tomb: x.tomb})
		}
	}
	return out
}

// parted are the lines that a Compact keeps, and the revisions of those of them that are up to at.
func (p plain) parted(n int64) (kept []line, told []api.Rev) {
	for i, x := range p.lines {
		_, last := p.before(x.key, n)
		switch {
		case x.rev.Main > n:
			kept = append(kept, x)
		case i == last && !x.tomb:
			kept, told = append(kept, x), append(told, x.rev)
		}
	}
	return kept, told
}

func (p *plain) compact(n int64) []api.Rev {
	kept, told := p.parted(n)
	p.lines = kept
	return told
}

func (p plain) keep(n int64) []api.Rev {
	_, told := p.parted(n)
	return told
}

// asked are the numbers that an index like a plain one is asked for: at, ahead of and behind each Main, and at the ends.
func (p plain) asked() []int64 {
	out := []int64{least, least + 1, -maxRev, -1, 0, 1, maxRev, maxRev + 1, greatest - 1, greatest}
	for _, x := range p.lines {
		out = append(out, x.rev.Main-1, x.rev.Main, x.rev.Main+1)
	}
	slices.Sort(out)
	return slices.Compact(out)
}

// bounds are the keys that it is asked for: those with a history, those right behind them, and some others.
func (p plain) bounds() []string {
	out := []string{"", "\x00", "a", "ab", "b", "m", "\xff\xff\xff"}
	for _, k := range p.keys() {
		out = append(out, k, k+"\x00")
	}
	slices.Sort(out)
	return slices.Compact(out)
}

func hitsAlike(got, want []index.Hit) bool {
	return slices.EqualFunc(got, want, func(a, b index.Hit) bool {
		return string(a.Key) == string(b.Key) && a.Found == b.Found
	})
}

func changesAlike(got, want []index.Change) bool {
	return slices.EqualFunc(got, want, func(a, b index.Change) bool {
		return string(a.Key) == string(b.Key) && a.Rev == b.Rev && a.Tomb == b.Tomb
	})
}

// mustGetLike asks for one key as it was.
func mustGetLike(t *testing.T, x *index.Index, p plain, key string, n int64) {
	t.Helper()
	got, there := x.Get([]byte(key), n)
	if want, ok := p.get(key, n); got != want || there != ok {
		t.Fatalf("%v: Get(%q, %d): %v, %v; want %v, %v", p, key, n, got, there, want, ok)
	}
}

// mustRangeLike asks for one range, of keys that were there and of changes.
func mustRangeLike(t *testing.T, x *index.Index, p plain, key, end string, n int64) {
	t.Helper()
	if got, want := x.Range([]byte(key), []byte(end), n), p.within(key, end, n); !hitsAlike(got, want) {
		t.Fatalf("%v: Range(%q, %q, %d): %v; want %v", p, key, end, n, got, want)
	}
	if got, want := x.Since([]byte(key), []byte(end), n), p.since(key, end, n); !changesAlike(got, want) {
		t.Fatalf("%v: Since(%q, %q, %d): %v; want %v", p, key, end, n, got, want)
	}
}

// mustSeemLike asks that an index tells what a plain one tells of all keys.
func mustSeemLike(t *testing.T, x *index.Index, p plain) {
	t.Helper()
	if got, want := x.Len(), len(p.keys()); got != want {
		t.Fatalf("%v: Len: %d", p, got)
	}
	for _, n := range p.asked() {
		mustRangeLike(t, x, p, "", all, n)
		if got, want := x.Keep(n), p.keep(n); !slices.Equal(got, want) {
			t.Fatalf("%v: Keep(%d): %v; want %v", p, n, got, want)
		}
	}
}

// mustBeLike asks that an index tells all that a plain one tells.
func mustBeLike(t *testing.T, x *index.Index, p plain) {
	t.Helper()
	mustSeemLike(t, x, p)
	for _, key := range p.bounds() {
		for _, n := range p.asked() {
			mustGetLike(t, x, p, key, n)
		}
		for _, end := range append(p.bounds(), all) {
			mustRangeLike(t, x, p, key, end, least)
			mustRangeLike(t, x, p, key, end, p.last.Main)
			mustRangeLike(t, x, p, key, end, p.last.Main/2)
		}
	}
}

// mustCompactLike compacts both.
func mustCompactLike(t *testing.T, x *index.Index, p *plain, n int64) {
	t.Helper()
	was := p.copy()
	if got, want := x.Compact(n), p.compact(n); !slices.Equal(got, want) {
		t.Fatalf("%v: Compact(%d): %v; want %v", was, n, got, want)
	}
}

// mustBe asks for an error's number.
func mustBe(t *testing.T, what string, got, want api.Errno) {
	t.Helper()
	if got != want {
		t.Fatalf("%s: %d; want %d", what, got, want)
	}
}

// mustPut and mustTomb: a change that may come.
func mustPut(t *testing.T, x *index.Index, key string, r api.Rev) {
	t.Helper()
	mustBe(t, "Put of "+key, x.Put([]byte(key), r), api.OK)
}
func mustTomb(t *testing.T, x *index.Index, key string, r api.Rev) {
	t.Helper()
	mustBe(t, "Tomb of "+key, x.Tomb([]byte(key), r), api.OK)
}

// hit, put and gone are what is told of a key that is there, and of changes.
func hit(key string, mod api.Rev, create, version int64) index.Hit {
	return index.Hit{Key: []byte(key), Found: gens.Found{Mod: mod, Create: create, Version: version}}
}
func put(key string, r api.Rev) index.Change { return index.Change{Key: []byte(key), Rev: r} }
func gone(key string, r api.Rev) index.Change {
	return index.Change{Key: []byte(key), Rev: r, Tomb: true}
}

// mustRange asks which keys were there.
func mustRange(t *testing.T, x *index.Index, key, end string, n int64, want ...index.Hit) {
	t.Helper()
	if got := x.Range([]byte(key), []byte(end), n); !hitsAlike(got, want) {
		t.Fatalf("Range(%q, %q, %d): %v; want %v", key, end, n, got, want)
	}
}

// mustSince asks for the changes from a Main on.
func mustSince(t *testing.T, x *index.Index, key, end string, main int64, want ...index.Change) {
	t.Helper()
	if got := x.Since([]byte(key), []byte(end), main); !changesAlike(got, want) {
		t.Fatalf("Since(%q, %q, %d): %v; want %v", key, end, main, got, want)
	}
}

// mustGet asks for a key as it was.
func mustGet(t *testing.T, x *index.Index, key string, n int64, mod api.Rev, create, version int64) {
	t.Helper()
	want := gens.Found{Mod: mod, Create: create, Version: version}
	if got, there := x.Get([]byte(key), n); got != want || !there {
		t.Fatalf("Get(%q, %d): %v, %v; want %v", key, n, got, there, want)
	}
}

// mustMiss asks that a key wasn't there then.
func mustMiss(t *testing.T, x *index.Index, key string, numbers ...int64) {
	t.Helper()
	for _, n := range numbers {
		if got, there := x.Get([]byte(key), n); got != (gens.Found{}) || there {
			t.Fatalf("Get(%q, %d): %v, %v; want nothing", key, n, got, there)
		}
	}
}

// mustKeep asks which revisions a Compact would keep.
func mustKeep(t *testing.T, x *index.Index, n int64, want ...api.Rev) {
	t.Helper()
	if got := x.Keep(n); !slices.Equal(got, want) {
		t.Fatalf("Keep(%d): %v; want %v", n, got, want)
	}
}

// mustCompact compacts, and asks what Keep tells ahead of it and behind it too.
func mustCompact(t *testing.T, x *index.Index, n int64, want ...api.Rev) {
	t.Helper()
	mustKeep(t, x, n, want...)
	if got := x.Compact(n); !slices.Equal(got, want) {
		t.Fatalf("Compact(%d): %v; want %v", n, got, want)
	}
	mustKeep(t, x, n, want...)
}

// mustLen asks how many keys have a history.
func mustLen(t *testing.T, x *index.Index, want int) {
	t.Helper()
	if got := x.Len(); got != want {
		t.Fatalf("Len: %d; want %d", got, want)
	}
}
