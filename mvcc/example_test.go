package mvcc_test

import (
	"bytes"
	"testing"

	"terrier/api"
)

// kv is a record without a lease.
func kv(key, value string, create, mod, version int64) api.KV {
	return api.KV{Key: []byte(key), Value: []byte(value), Create: create, Mod: mod, Version: version}
}

// TestExample: the chapter's example, by its own words.
func TestExample(t *testing.T) {
	s := example(t).s
	if s.Rev() != 3 || s.Floor() != 0 {
		t.Fatalf("Rev %d, Floor %d; want 3, 0", s.Rev(), s.Floor())
	}
	second := kv("a", "2", 1, 2, 2)
	if got, e := s.Range([]byte("a"), nil, 2); e != api.OK || !sameKVs(got, []api.KV{second}) {
		t.Fatalf("Range(a, at 2): %v, %d", got, e)
	}
	want := []api.Event{
		{Kind: api.Put, KV: second, Had: true, Prev: kv("a", "1", 1, 1, 1)},
		{Kind: api.Deleted, KV: api.KV{Key: []byte("a"), Mod: 3}, Had: true, Prev: second},
	}
	if got, e := s.Since([]byte("a"), nil, 2); e != api.OK || !sameEvents(got, want) {
		t.Fatalf("Since(a, 2): %v, %d", got, e)
	}
	mustBe(t, "Compact(2)", s.Compact(2), api.OK)
	if got, e := s.Range([]byte("a"), nil, 1); e != api.ErrCompacted || got != nil {
		t.Fatalf("Range(a, at 1) behind Compact(2): %v, %d", got, e)
	}
	if got, e := s.Since([]byte("a"), nil, 2); e != api.ErrCompacted || got != nil {
		t.Fatalf("Since(a, 2) behind Compact(2): %v, %d", got, e)
	}
	if got, e := s.Since([]byte("a"), nil, 3); e != api.OK || !sameEvents(got, want[1:]) {
		t.Fatalf("Since(a, 3) behind Compact(2): %v, %d", got, e)
	}
}

// TestBytes: what stands in the buckets, byte by byte.
func TestBytes(t *testing.T) {
	w := example(t)
	mustBe(t, "Compact", w.s.Compact(2), api.OK)
	for _, x := range []struct{ bucket, at, value string }{
		{"meta", "rev", "\x00\x00\x00\x00\x00\x00\x00\x03"},
		{"meta", "floor", "\x00\x00\x00\x00\x00\x00\x00\x02"},
		{
			"key", "\x00\x00\x00\x00\x00\x00\x00\x02_\x00\x00\x00\x00\x00\x00\x00\x00",
			"\x01\x00\x01a\x00\x00\x00\x00\x00\x00\x00\x01\x00\x00\x00\x00\x00\x00\x00\x02\x00\x00\x00\x00\x00\x00\x00\x02\x00\x00\x00\x00\x00\x00\x00\x00\x00\x012",
		},
		{"key", "\x00\x00\x00\x00\x00\x00\x00\x03_\x00\x00\x00\x00\x00\x00\x00\x00t", "\x02\x00\x01a"},
	} {
		got, found, e := w.s.Base().Get(x.bucket, []byte(x.at))
		if e != api.OK || !found || !bytes.Equal(got, []byte(x.value)) {
			t.Fatalf("%s, under % x: % x, %v, %d; want % x", x.bucket, x.at, got, found, e, x.value)
		}
	}
	names, e := w.s.Base().Buckets()
	if e != api.OK || len(names) != 2 || names[0] != "key" || names[1] != "meta" {
		t.Fatalf("Buckets: %q, %d", names, e)
	}
}

// TestRich: the store of many fates tells, and has, what the chapter's words say.
func TestRich(t *testing.T) {
	w := rich(t)
	w.mustTell(t, "a rich store")
	if w.s.Rev() != 13 {
		t.Fatalf("Rev: %d", w.s.Rev())
	}
	w.commit(t)
	w.mustTell(t, "behind a commit")
	w.reopen(t)
	w.mustTell(t, "behind an opening")
}
