package index_test

import (
	"testing"

	"terrier/api"
	"terrier/gens"
	"terrier/index"
)

// TestExample: P12.1 to P12.3, the chapter's example.
func TestExample(t *testing.T) {
	x := index.New()
	mustPut(t, x, "a", at(1, 0))
	mustPut(t, x, "b", at(2, 0))
	mustTomb(t, x, "a", at(3, 0))
	mustRange(t, x, "", all, 2, hit("a", at(1, 0), 1, 1), hit("b", at(2, 0), 2, 1))
	mustRange(t, x, "", all, 3, hit("b", at(2, 0), 2, 1))
	mustLen(t, x, 2)
	mustCompact(t, x, 3, at(2, 0))
	mustLen(t, x, 1)
	mustRange(t, x, "", all, 3, hit("b", at(2, 0), 2, 1))
	mustSince(t, x, "", all, 0, put("b", at(2, 0)))
}

// TestNew: P12.1, an index without a key, that asking makes none; two of them are apart.
func TestNew(t *testing.T) {
	x, other := index.New(), index.New()
	if x == nil || x == other {
		t.Fatal("New")
	}
	for range 2 {
		mustBeLike(t, x, plain{})
		mustBeLike(t, x.Copy(), plain{})
		for _, n := range []int64{least, 0, 1, greatest} {
			mustCompact(t, x, n)
		}
		mustBe(t, "Tomb", x.Tomb(nil, at(9, 0)), api.ErrNone)
		mustBe(t, "Restore of a tombstone", x.Restore([]byte("a"), gens.Found{Mod: at(9, 0)}, true), api.ErrNone)
	}
	mustPut(t, x, "a", at(1, 0))
	mustBeLike(t, other, plain{})
	mustPut(t, other, "b", at(1, 0))
	mustRange(t, x, "", all, 1, hit("a", at(1, 0), 1, 1))
}

// TestNil: P12.3, a nil index, whatever it is told.
func TestNil(t *testing.T) {
	var x *index.Index
	for _, key := range [][]byte{nil, {}, []byte("a"), {0}} {
		for _, r := range append(wrongRevs(), at(1, 0), at(maxRev, maxRev)) {
			mustRefuse(t, "nil", x, key, gens.Found{Mod: r}, api.ErrArg)
			mustRefuse(t, "nil", x, key, gens.Found{Mod: r, Create: 1, Version: 1}, api.ErrArg)
		}
		for _, n := range []int64{least, 0, 1, greatest} {
			mustMiss(t, x, string(key), n)
			if x.Range(key, []byte{0}, n) != nil || x.Since(key, []byte{0}, n) != nil || x.Compact(n) != nil || x.Keep(n) != nil {
				t.Fatal("a list of nil")
			}
		}
	}
	mustLen(t, x, 0)
	if x.Copy() != nil {
		t.Fatal("Copy of nil")
	}
}

// wrongRevs are revisions that aren't right.
func wrongRevs() []api.Rev {
	var out []api.Rev
	for _, wrong := range []int64{least, -maxRev, -1, maxRev + 1, greatest} {
		out = append(out, at(wrong, 0), at(wrong, maxRev), at(1, wrong), at(5, wrong), at(maxRev, wrong), at(wrong, wrong))
	}
	return append(out, at(0, 0), at(0, 1), at(0, maxRev))
}

// step is a change, or (compact) a compaction.
type step struct {
	do  string
	key string
	rev api.Rev
}

// built is an index and a plain one with these steps done.
func built(t *testing.T, steps ...step) (*index.Index, plain) {
	t.Helper()
	x, p := index.New(), plain{}
	for _, s := range steps {
		switch s.do {
		case "put":
			mustBe(t, "a plain put", p.put(s.key, s.rev), api.OK)
			mustPut(t, x, s.key, s.rev)
		case "tomb":
			mustBe(t, "a plain tombstone", p.tomb(s.key, s.rev), api.OK)
			mustTomb(t, x, s.key, s.rev)
		case "compact":
			mustCompactLike(t, x, &p, s.rev.Main)
		}
	}
	mustSeemLike(t, x, p)
	return x, p
}

// usual are steps by which keys come, go and come again; several changes have one Main.
func usual() []step {
	return []step{
		{"put", "b", at(2, 0)},
		{"put", "a", at(2, 1)},
		{"put", "", at(3, 0)},
		{"tomb", "a", at(4, 0)},
		{"put", "ab", at(4, 1)},
		{"put", "b", at(4, 7)},
		{"put", "a", at(6, 2)},
		{"tomb", "b", at(6, 3)},
		{"put", "\xff\xff", at(7, 0)},
		{"put", "a", at(7, 1)},
		{"tomb", "\xff\xff", at(9, 4)},
	}
}

// kinds are indexes of all kinds, each with its plain one.
func kinds(t *testing.T) map[string]func() (*index.Index, plain) {
	t.Helper()
	build := func(steps ...step) func() (*index.Index, plain) {
		return func() (*index.Index, plain) { return built(t, steps...) }
	}
	compacted := func(n int64) step { return step{"compact", "", at(n, 0)} }
	dead := []step{{"put", "a", at(1, 0)}, {"put", "b", at(2, 0)}, {"tomb", "b", at(5, 0)}, {"tomb", "a", at(5, 1)}}
	return map[string]func() (*index.Index, plain){
		"new":               build(),
		"one":               build(step{"put", "m", at(5, 3)}),
		"usual":             build(usual()...),
		"compacted":         build(append(usual(), compacted(4))...),
		"compacted whole":   build(append(usual(), compacted(9))...),
		"all gone":          build(dead...),
		"compacted to none": build(append(dead, compacted(5))...),
	}
}

// asked are keys of each kind: with and without a history, there and gone.
func askedKeys() []string { return []string{"", "a", "ab", "b", "m", "zz", "\xff\xff", "\xff"} }

// mustRefuse asks for the same error at each change of a key.
func mustRefuse(t *testing.T, what string, x *index.Index, key []byte, f gens.Found, want api.Errno) {
	t.Helper()
	mustBe(t, what+": Put", x.Put(key, f.Mod), want)
	mustBe(t, what+": Tomb", x.Tomb(key, f.Mod), want)
	mustBe(t, what+": Restore", x.Restore(key, f, false), want)
	mustBe(t, what+": Restore of a tombstone", x.Restore(key, f, true), want)
}

// TestWrongRevisions: P12.1, of any index ErrRange, ahead of all other errors, and nothing has changed.
func TestWrongRevisions(t *testing.T) {
	for name, kind := range kinds(t) {
		x, p := kind()
		for _, key := range askedKeys() {
			k := []byte(key)
			for _, r := range wrongRevs() {
				for _, n := range []int64{least, 0, 1, 2, greatest} {
					mustRefuse(t, name, x, k, gens.Found{Mod: r, Create: n, Version: n}, api.ErrRange)
				}
			}
			for _, r := range []api.Rev{at(1, 0), p.last, at(20, 0)} {
				for _, f := range []gens.Found{{Create: 0, Version: 1}, {Create: -1, Version: 1}, {Create: r.Main + 1, Version: 1}, {Create: 1, Version: 0}, {Create: 1, Version: least}} {
					f.Mod = r
					mustBe(t, name+": Restore of "+key, x.Restore(k, f, false), api.ErrRange)
				}
			}
		}
		mustBeLike(t, x, p)
	}
}

// TestNotAbove: P12.1, of the index's last revision and of those below it, by Main or by Sub, whatever the key: ErrExist, ahead of ErrNone and ErrForm, and nothing has changed.
func TestNotAbove(t *testing.T) {
	for name, kind := range kinds(t) {
		x, p := kind()
		if name == "new" {
			continue
		}
		last := p.last
		below := []api.Rev{last, at(1, 0), at(1, maxRev), at(last.Main, 0), at(last.Main-1, 0), at(last.Main-1, maxRev), at(last.Main, last.Sub-1)}
		for _, c := range p.lines {
			below = append(below, c.rev, at(c.rev.Main, 0), at(c.rev.Main, c.rev.Sub+1))
		}
		for _, r := range below {
			if !isRight(r) || p.afresh(r) {
				continue
			}
			for _, key := range askedKeys() {
				k := []byte(key)
				for _, f := range []gens.Found{{Create: 1, Version: 1}, {Create: r.Main, Version: 1}, {Create: r.Main, Version: greatest}, {Create: 1, Version: 2}} {
					f.Mod = r
					mustRefuse(t, name, x, k, f, api.ErrExist)
				}
			}
		}
		mustBeLike(t, x, p)
	}
}

// TestAbove: P12.1, a revision with the last one's Main and a greater Sub is above it, as one with a greater Main is, whatever its Sub and whatever the key.
func TestAbove(t *testing.T) {
	for name, kind := range kinds(t) {
		x, p := kind()
		last := p.last
		if name == "new" {
			last = at(1, -1)
		}
		for _, r := range []api.Rev{at(last.Main, last.Sub+1), at(last.Main, maxRev), at(last.Main+1, 0), at(last.Main+1, last.Sub+1), at(maxRev, 0), at(maxRev, maxRev)} {
			for _, key := range askedKeys() {
				k := []byte(key)
				y, q := x.Copy(), p.copy()
				mustBe(t, name+": Put", y.Put(k, r), q.put(key, r))
				mustSeemLike(t, y, q)
				mustBe(t, name+": Put again", y.Put(k, r), api.ErrExist)
				mustBe(t, name+": Put of another one", y.Put([]byte("other"), r), api.ErrExist)
				mustSeemLike(t, y, q)
				y, q = x.Copy(), p.copy()
				mustBe(t, name+": Tomb", y.Tomb(k, r), q.tomb(key, r))
				mustSeemLike(t, y, q)
				f := p.following(key, r)
				for _, tomb := range []bool{false, true} {
					y, q = x.Copy(), p.copy()
					mustBe(t, name+": Restore", y.Restore(k, f, tomb), q.restore(key, f, tomb))
					mustSeemLike(t, y, q)
				}
			}
		}
		mustBeLike(t, x, p)
	}
}

// TestNone: P12.1, a tombstone of a key without a history, or of one that isn't there: ErrNone; the key has no history behind it, and the index's last revision is what it was.
func TestNone(t *testing.T) {
	for name, kind := range kinds(t) {
		x, p := kind()
		for _, key := range askedKeys() {
			if p.isThere(key) {
				continue
			}
			for _, r := range []api.Rev{at(20, 0), at(maxRev, maxRev)} {
				mustBe(t, name+": Tomb", x.Tomb([]byte(key), r), api.ErrNone)
				for _, n := range []int64{least, 0, 1, 20, greatest} {
					mustBe(t, name+": Restore", x.Restore([]byte(key), gens.Found{Mod: r, Create: n, Version: n}, true), api.ErrNone)
				}
			}
		}
		mustBeLike(t, x, p)
		next := at(p.last.Main+1, 0)
		mustBe(t, name+": Put", x.Put([]byte("zz"), next), p.put("zz", next))
		mustBeLike(t, x, p)
	}
}

// TestRestore: P12.1, puts as they were told, of a key without a history, of one that is gone, of one that is there; ErrForm, where they aren't those that come next, changes nothing.
func TestRestore(t *testing.T) {
	x, p := built(t, usual()...)
	restore := func(want api.Errno, key string, f gens.Found, tomb bool) {
		t.Helper()
		mustBe(t, "Restore", x.Restore([]byte(key), f, tomb), want)
		mustBe(t, "a plain Restore", p.restore(key, f, tomb), want)
		mustBeLike(t, x, p)
	}
	restore(api.ErrForm, "a", gens.Found{Mod: at(10, 0), Create: 6, Version: 2}, false)
	restore(api.ErrForm, "a", gens.Found{Mod: at(10, 0), Create: 6, Version: 4}, false)
	restore(api.ErrForm, "a", gens.Found{Mod: at(maxRev, maxRev), Create: 7, Version: 3}, false)
	restore(api.OK, "a", gens.Found{Mod: at(10, 0), Create: 6, Version: 3}, false)
	restore(api.ErrExist, "new", gens.Found{Mod: at(10, 0), Create: 6, Version: 3}, false)
	restore(api.OK, "new", gens.Found{Mod: at(10, 1), Create: 5, Version: 9}, false)
	restore(api.ErrForm, "new", gens.Found{Mod: at(10, 2), Create: 10, Version: 1}, false)
	restore(api.OK, "b", gens.Found{Mod: at(11, 0), Create: 2, Version: greatest}, false)
	restore(api.ErrRange, "b", gens.Found{Mod: at(12, 0), Create: 2, Version: least}, false)
	restore(api.OK, "new", gens.Found{Mod: at(11, 5), Create: 77, Version: -3}, true)
	restore(api.ErrNone, "new", gens.Found{Mod: at(12, 5), Create: 5, Version: 10}, true)
	restore(api.ErrExist, "a", gens.Found{Mod: at(11, 4), Create: 6, Version: 4}, true)
	restore(api.OK, "\xff\xff", gens.Found{Mod: at(11, 6), Create: 1, Version: 1}, false)
	mustGet(t, x, "new", 10, at(10, 1), 5, 9)
	mustPut(t, x, "b", at(12, 0))
	mustGet(t, x, "b", 12, at(12, 0), 2, least)
}

// TestErrorsOfTwo: R2, of two errors that hold the one that comes first.
func TestErrorsOfTwo(t *testing.T) {
	x, p := built(t, usual()...)
	a, none := []byte("a"), []byte("none")
	mustBe(t, "out of bounds, and not above", x.Put(a, at(1, -1)), api.ErrRange)
	mustBe(t, "out of bounds, and not above, and none", x.Tomb(none, at(-1, 0)), api.ErrRange)
	mustBe(t, "out of bounds, and none", x.Tomb(none, at(20, -1)), api.ErrRange)
	mustBe(t, "not above, and none", x.Tomb(none, at(9, 4)), api.ErrExist)
	mustBe(t, "Create out of bounds, and not above", x.Restore(none, gens.Found{Mod: at(9, 4), Create: 10, Version: 1}, false), api.ErrRange)
	mustBe(t, "Create out of bounds, and not the next", x.Restore(a, gens.Found{Mod: at(10, 0), Create: 11, Version: 9}, false), api.ErrRange)
	mustBe(t, "Version out of bounds, and not above", x.Restore(a, gens.Found{Mod: at(9, 4), Create: 6, Version: 0}, false), api.ErrRange)
	mustBe(t, "not above, and not the next", x.Restore(a, gens.Found{Mod: at(9, 4), Create: 6, Version: 9}, false), api.ErrExist)
	mustBe(t, "a tombstone, not above, and none", x.Restore(none, gens.Found{Mod: at(9, 4), Create: 10}, true), api.ErrExist)
	mustBe(t, "a tombstone out of bounds, and none", x.Restore(none, gens.Found{Mod: at(0, 4)}, true), api.ErrRange)
	mustBeLike(t, x, p)
}

// TestKeysAreBytes: P12.1, any bytes are a key; nil and empty are the same one.
func TestKeysAreBytes(t *testing.T) {
	x := index.New()
	mustBe(t, "Put", x.Put(nil, at(1, 0)), api.OK)
	mustBe(t, "Put", x.Put([]byte{}, at(2, 0)), api.OK)
	mustLen(t, x, 1)
	mustGet(t, x, "", 2, at(2, 0), 1, 2)
	if got, there := x.Get(nil, 2); !there || got.Version != 2 {
		t.Fatal("Get of nil:", got, there)
	}
	long := string(make([]byte, 5000))
	mustPut(t, x, long, at(3, 0))
	mustPut(t, x, long+"\x00", at(4, 0))
	mustPut(t, x, "\x00", at(5, 0))
	mustPut(t, x, "\xff\xfe", at(6, 0))
	mustLen(t, x, 5)
	mustRange(t, x, "", all, 6, hit("", at(2, 0), 1, 2), hit("\x00", at(5, 0), 5, 1), hit(long, at(3, 0), 3, 1), hit(long+"\x00", at(4, 0), 4, 1), hit("\xff\xfe", at(6, 0), 6, 1))
	if x.Tomb(nil, at(7, 0)) != api.OK || x.Range(nil, nil, 7) != nil || len(x.Range(nil, nil, 6)) != 1 {
		t.Fatal("the empty key")
	}
}
