package mvcc_test

import (
	"bytes"
	"testing"

	"terrier/api"
)

// spoilBytes writes over bytes, the room behind them too.
func spoilBytes(b []byte) {
	b = b[:cap(b)]
	for i := range b {
		b[i] = 'Z'
	}
}

// spoilKV writes over all that a record's texts have.
func spoilKV(x api.KV) {
	spoilBytes(x.Key)
	spoilBytes(x.Value)
}

// spoilKVs writes over records.
func spoilKVs(l []api.KV) {
	for i, x := range l {
		spoilKV(x)
		l[i] = kv("spoiled", "spoiled", 7, 7, 7)
	}
	for i := range l[:cap(l)] {
		l[:cap(l)][i] = kv("spoiled", "spoiled", 7, 7, 7)
	}
}

// spoilEvents writes over events.
func spoilEvents(l []api.Event) {
	for i, x := range l {
		spoilKV(x.KV)
		spoilKV(x.Prev)
		l[i] = api.Event{Kind: 9}
	}
}

// roomy is these bytes with room behind them.
func roomy(text string) []byte {
	b := append([]byte(text), "spare room"...)
	return b[:len(text)]
}

// mustBeRoomy asks that bytes and the room behind them are as they were handed in.
func mustBeRoomy(t *testing.T, what string, b []byte, text string) {
	t.Helper()
	if !bytes.Equal(b[:cap(b)][:len(text)+10], []byte(text+"spare room")) {
		t.Fatalf("%s has changed %q", what, text)
	}
}

// TestArgumentsStay: P15.6, R4, what is handed in is not changed, its room neither.
func TestArgumentsStay(t *testing.T) {
	for _, x := range append(scopes(), scope{"bb", "bb\x00"}, scope{"", ""}, scope{text(5, 64), "\xff"}) {
		w := rich(t)
		key, end, value := roomy(x.key), roomy(x.end), roomy("value")
		ask := func(what string) {
			t.Helper()
			mustBeRoomy(t, what, key, x.key)
			mustBeRoomy(t, what, end, x.end)
			mustBeRoomy(t, what, value, "value")
		}
		w.s.Range(key, end, 5)
		ask("Range")
		w.s.Since(key, end, 5)
		ask("Since")
		w.begin(t)
		w.s.Put(key, value, 3)
		ask("Put")
		w.s.Put(key, value, 3)
		ask("Put again")
		w.s.Delete(key, end)
		ask("Delete")
		w.s.Range(key, end, 0)
		ask("Range in a write")
		w.s.Delete(nil, end)
		ask("Delete from nothing on")
		w.s.End()
		w.s.Compact(7)
		w.s.Sweep(9)
		ask("the rest")
	}
}

// TestArgumentsGo: P15.6, R4, what was handed in isn't kept: it may be written over.
func TestArgumentsGo(t *testing.T) {
	w := twinOf(t, 200)
	for i := range 12 {
		w.begin(t)
		for _, n := range []int{0, 20, 65, 300} {
			key, value := roomy(string('a'+rune(i%4))), roomy(text(i, n))
			w.now.put(string(key), string(value), 0)
			w.s.Put(key, value, 0)
			spoilBytes(key)
			spoilBytes(value)
		}
		w.mustTell(t, "in a write")
		key, end := roomy("b"), roomy("d")
		if i%3 == 2 {
			w.now.del("b", "d")
			w.s.Delete(key, end)
		}
		w.s.Range(key, end, 0)
		spoilBytes(key)
		spoilBytes(end)
		w.end(t)
		w.mustTell(t, "behind a write")
	}
	w.commit(t)
	w.reopen(t)
	w.mustTell(t, "opened again")
}

// TestAnswersAreNew: P15.6, R4, what is written into an answer is seen neither in the store nor in another answer.
func TestAnswersAreNew(t *testing.T) {
	w := rich(t)
	for at := range int64(14) {
		kvs, _ := w.s.Range(nil, []byte(all), at)
		events, _ := w.s.Since(nil, []byte(all), at)
		l, _ := w.s.Range(nil, []byte(all), at)
		spoilKVs(l)
		e, _ := w.s.Since(nil, []byte(all), at)
		spoilEvents(e)
		want, _ := w.now.scope("", all, at)
		since, _ := w.now.since("", all, at)
		if !sameKVs(kvs, want) || !sameEvents(events, since) {
			t.Fatal("two answers share memory")
		}
		w.mustTell(t, "behind spoiled answers")
	}
	w.begin(t)
	for range 2 {
		w.now.put("a", "1", 0)
		prev, _, _ := w.s.Put([]byte("a"), []byte("1"), 0)
		spoilKV(prev)
		w.now.del("b", "bz")
		gone, _ := w.s.Delete([]byte("b"), []byte("bz"))
		spoilKVs(gone)
		w.mustTell(t, "in a write, behind spoiled answers")
	}
	w.now.end()
	events, _ := w.s.End()
	spoilEvents(events)
	w.mustTell(t, "behind a spoiled End")
}

// TestKeysOfOneAnswer: P15.6, R4, no two parts of one answer share memory.
func TestKeysOfOneAnswer(t *testing.T) {
	w := rich(t)
	w.begin(t)
	w.put(t, "a", "1", 0)
	w.put(t, "a", "2", 0)
	w.del(t, "a", "")
	w.put(t, "a", "3", 0)
	want, _ := w.now.end()
	got, _ := w.s.End()
	mustPart(t, "End", got, want)
	for main := int64(1); main < 15; main++ {
		got, _ := w.s.Since(nil, []byte(all), main)
		want, _ := w.now.since("", all, main)
		mustPart(t, "Since", got, want)
	}
	kvs, _ := w.s.Range(nil, []byte(all), 12)
	right, _ := w.now.scope("", all, 12)
	mustPartKVs(t, "Range", kvs, right)
	w.begin(t)
	gone, _ := w.s.Delete(nil, []byte(all))
	right, _ = w.now.del("", all)
	mustPartKVs(t, "Delete", gone, right)
	w.now.end()
	w.s.End()
	w.mustTell(t, "behind all that was spoiled")
}

// mustPart spoils events one by one, part by part, and asks that those that aren't yet spoiled stay.
func mustPart(t *testing.T, what string, got, want []api.Event) {
	t.Helper()
	for i, e := range got {
		if !sameEvents(got[i:], want[i:]) {
			t.Fatalf("%s: two events share memory", what)
		}
		spoilKV(e.KV)
		if !sameKV(e.Prev, want[i].Prev) {
			t.Fatalf("%s: an event shares memory with what was", what)
		}
		spoilKV(e.Prev)
	}
}

// mustPartKVs does so with records, whose keys and values are apart, too.
func mustPartKVs(t *testing.T, what string, got, want []api.KV) {
	t.Helper()
	for i, x := range got {
		if !sameKVs(got[i:], want[i:]) {
			t.Fatalf("%s: two records share memory", what)
		}
		spoilBytes(x.Key)
		if !bytes.Equal(x.Value, want[i].Value) {
			t.Fatalf("%s: a key and its value share memory", what)
		}
		spoilBytes(x.Value)
	}
}

// TestAnswersStay: P15.6, R4, what was told stays as it was, whatever is done behind it.
func TestAnswersStay(t *testing.T) {
	w := rich(t)
	kvs, _ := w.s.Range(nil, []byte(all), 6)
	events, _ := w.s.Since(nil, []byte(all), 1)
	right, _ := w.now.scope("", all, 6)
	since, _ := w.now.since("", all, 1)
	w.begin(t)
	ahead := w.now
	prevs, _ := ahead.del("", all)
	gone, _ := w.s.Delete(nil, []byte(all))
	want, _ := ahead.end()
	told, _ := w.s.End()
	w.now = ahead
	for i := range 10 {
		w.puts(t, "a", text(i, 100))
		w.puts(t, "b", text(i, 10))
		w.compact(t, w.now.rev-1)
		w.sweep(t, 4)
		w.commit(t)
	}
	if !sameKVs(kvs, right) || !sameEvents(events, since) || !sameKVs(gone, prevs) || !sameEvents(told, want) {
		t.Fatal("what was told has changed")
	}
}

// TestSavedStays: P15.5, what was saved stays as it was, whatever is done behind it, and behind a Back to it, too.
func TestSavedStays(t *testing.T) {
	w := rich(t)
	was, s := w.now, w.s.Save()
	for i := range 4 {
		w.puts(t, "a", text(i, 100))
		w.dels(t, "b", all)
		w.puts(t, "n", "new")
		w.compact(t, w.now.rev-1)
		w.sweep(t, 4)
		w.begin(t)
		w.put(t, "o", "open", 0)
		w.s.Back(s)
		w.now = was
		w.mustTell(t, "back")
	}
}
