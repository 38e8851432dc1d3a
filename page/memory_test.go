package page_test

import (
	"bytes"
	"slices"
	"testing"

	"terrier/api"
	"terrier/page"
)

// roomy is a row that has room behind it, in which something stands.
func roomy(b []byte) []byte {
	return append(append(make([]byte, 0, len(b)+8), b...), "SPARE"...)[:len(b)]
}

// behind is what stands in a row and in the room behind it.
func behind(b []byte) []byte { return bytes.Clone(b[:cap(b)]) }

// spoil writes over a row, the room behind it too.
func spoil(b []byte) {
	b = b[:cap(b)]
	for i := range b {
		b[i] += 0x35
	}
}

// rows are all rows of bytes that a page has.
func rows(p page.Page) [][]byte {
	out := [][]byte{p.Data}
	for _, item := range p.Items {
		out = append(out, item.Key, item.Value)
	}
	for _, kid := range p.Kids {
		out = append(out, kid.Key)
	}
	return out
}

// apart is a page with the same in it, whose rows have room behind them.
func apart(p page.Page) page.Page {
	p.Data, p.IDs = roomy(p.Data), slices.Clone(p.IDs)
	p.Items, p.Kids = slices.Clone(p.Items), slices.Clone(p.Kids)
	for i := range p.Items {
		p.Items[i].Key, p.Items[i].Value = roomy(p.Items[i].Key), roomy(p.Items[i].Value)
	}
	for i := range p.Kids {
		p.Kids[i].Key = roomy(p.Kids[i].Key)
	}
	return p
}

// spoilPage writes over all that a page has, the room behind its lists too.
func spoilPage(p page.Page) {
	for _, b := range rows(p) {
		spoil(b)
	}
	for i := range p.Items[:cap(p.Items)] {
		p.Items[:cap(p.Items)][i] = page.Item{Size: 77}
	}
	for i := range p.Kids[:cap(p.Kids)] {
		p.Kids[:cap(p.Kids)][i] = page.Kid{Page: 77}
	}
	for i := range p.IDs[:cap(p.IDs)] {
		p.IDs[:cap(p.IDs)][i] = 77
	}
}

// TestPageIsKept: P4.3, what is handed in isn't changed, the room behind it neither, nor kept.
func TestPageIsKept(t *testing.T) {
	for _, sample := range append(samples(), leaf(), piece(text(300, 1)), spare(9, 3)) {
		p := apart(sample)
		var was [][]byte
		for _, b := range rows(p) {
			was = append(was, behind(b))
		}
		page.Right(p)
		page.Used(p)
		b, e := page.Encode(p)
		told := bytes.Clone(b)
		if !same(p, sample) {
			t.Fatalf("changed: %+v; was %+v", p, sample)
		}
		for i, b := range rows(p) {
			if !bytes.Equal(behind(b), was[i]) {
				t.Fatalf("changed: % x; was % x", behind(b), was[i])
			}
		}
		spoilPage(p)
		if !bytes.Equal(b, told) {
			t.Fatalf("what was told has changed with the page: % x; was % x", b, told)
		}
		if again, f := page.Encode(sample); f != e || !bytes.Equal(again, told) {
			t.Fatalf("Encode again: % x, %d; want % x, %d", again, f, told, e)
		}
	}
}

// TestBytesAreNew: P4.3, what Encode tells is new each time.
func TestBytesAreNew(t *testing.T) {
	for _, p := range samples() {
		want := plain(p)
		first, _ := page.Encode(p)
		second, _ := page.Encode(p)
		spoil(first)
		if !bytes.Equal(second, want) {
			t.Fatalf("two answers share memory: % x", second)
		}
		mustRight(t, "a sample", p)
	}
}

// TestBytesAreKept: P4.3, what Decode is handed isn't changed, nor kept.
func TestBytesAreKept(t *testing.T) {
	for _, p := range samples() {
		for _, b := range [][]byte{plain(p), plain(p)[:100], sealed(make([]byte, 252)), make([]byte, 256)} {
			b = roomy(b)
			was := behind(b)
			q, e := page.Decode(b)
			if !bytes.Equal(behind(b), was) {
				t.Fatalf("changed: % x; was % x", behind(b), was)
			}
			spoil(b)
			if e == api.OK && !same(q, p) {
				t.Fatalf("what was told has changed with the bytes: %+v; want %+v", q, p)
			}
		}
	}
}

// TestPageIsNew: P4.3, what Decode tells is new each time, and no two of its lists share memory.
func TestPageIsNew(t *testing.T) {
	for _, p := range samples() {
		b := plain(p)
		was := bytes.Clone(b)
		first, _ := page.Decode(b)
		second, _ := page.Decode(b)
		spoilPage(first)
		if !same(second, p) || !bytes.Equal(b, was) {
			t.Fatalf("answers share memory: %+v", second)
		}
		for i := range rows(second) {
			third, _ := page.Decode(b)
			spoil(rows(third)[i])
			for j, row := range rows(third) {
				if j != i && !bytes.Equal(row, rows(second)[j]) {
					t.Fatalf("the lists %d and %d of one answer share memory", i, j)
				}
			}
		}
	}
}
