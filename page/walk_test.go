package page_test

import (
	"bytes"
	"encoding/binary"
	"math/rand"
	"slices"
	"testing"

	"terrier/api"
	"terrier/page"
)

// isRight is the chapter's words on a right page, one by one.
func isRight(p page.Page) bool {
	has := map[int]int{1: len(p.Items), 2: len(p.Kids), 3: len(p.Data), 4: len(p.IDs)}
	own, known := has[p.Kind]
	if !known || own != things(p) || own == 0 && p.Kind != 4 {
		return false
	}
	if p.Next < 0 || p.Next > 1023 || p.Kind <= 2 && p.Next != 0 {
		return false
	}
	var keys []string
	for _, item := range p.Items {
		keys = append(keys, string(item.Key))
		if item.Size < 0 || item.Size > 4096 {
			return false
		}
		if item.Size <= 64 && (item.Size != len(item.Value) || item.More != 0) {
			return false
		}
		if item.Size > 64 && (len(item.Value) != 0 || item.More < 1 || item.More > 1023) {
			return false
		}
	}
	ids := slices.Clone(p.IDs)
	for _, kid := range p.Kids {
		keys, ids = append(keys, string(kid.Key)), append(ids, kid.Page)
	}
	for i, key := range keys {
		if len(key) > 32 || i > 0 && keys[i-1] >= key {
			return false
		}
	}
	for i, id := range ids {
		if id < 1 || id > 1023 || p.Kind == 4 && i > 0 && ids[i-1] >= id {
			return false
		}
	}
	return len(roomOf(p)) <= 237
}

// cut takes so many bytes from the front, noughts behind the end.
func cut(b *[]byte, n int) []byte {
	out := make([]byte, n)
	*b = (*b)[copy(out, *b):]
	return out
}

// cutNum takes a number from the front.
func cutNum(b *[]byte, n int) int {
	return int(binary.BigEndian.Uint64(append(make([]byte, 8-n), cut(b, n)...)))
}

// guess is the page that bytes would be of, if they are any's.
func guess(b []byte) page.Page {
	b = b[4:]
	p := page.Page{Kind: cutNum(&b, 1)}
	p.Txn = binary.BigEndian.Uint64(cut(&b, 8))
	p.Next = cutNum(&b, 4)
	for range min(cutNum(&b, 2), 300) { // no right page has so many things, and none whose count is greater has these bytes
		switch p.Kind {
		case 1:
			n, size := cutNum(&b, 1), cutNum(&b, 2)
			item := page.Item{Key: cut(&b, n), Size: size}
			if size <= 64 {
				item.Value = cut(&b, size)
			} else {
				item.More = cutNum(&b, 4)
			}
			p.Items = append(p.Items, item)
		case 2:
			n := cutNum(&b, 1)
			p.Kids = append(p.Kids, page.Kid{Key: cut(&b, n), Page: cutNum(&b, 4)})
		case 3:
			p.Data = append(p.Data, cut(&b, 1)...)
		case 4:
			p.IDs = append(p.IDs, cutNum(&b, 4))
		}
	}
	return p
}

// anyNumber is one near an edge, or between.
func anyNumber(r *rand.Rand, around ...int) int {
	if r.Intn(4) == 0 {
		return around[r.Intn(len(around))] + r.Intn(3) - 1
	}
	return 1 + r.Intn(1023)
}

// anyKeys are n of them, mostly rising.
func anyKeys(r *rand.Rand, n int) [][]byte {
	var out [][]byte
	for range n {
		key := make([]byte, r.Intn(9))
		if r.Intn(10) == 0 {
			key = make([]byte, 28+r.Intn(6))
		}
		r.Read(key)
		out = append(out, key)
	}
	if r.Intn(8) > 0 {
		slices.SortFunc(out, bytes.Compare)
		out = slices.CompactFunc(out, bytes.Equal)
	}
	return out
}

// anyItem is one that is mostly right.
func anyItem(r *rand.Rand, key []byte) page.Item {
	item := page.Item{Key: key, Size: r.Intn(65)}
	switch {
	case r.Intn(3) == 0:
		item.Size, item.More = anyNumber(r, 0, 64, 4096), anyNumber(r, 0, 1023)
		if item.Size <= 64 && item.Size >= 0 && r.Intn(4) > 0 {
			item.More = 0
			item.Value = make([]byte, item.Size)
		}
	case r.Intn(12) == 0:
		item.Value = make([]byte, max(item.Size+r.Intn(3)-1, 0))
	default:
		item.Value = make([]byte, item.Size)
	}
	r.Read(item.Value)
	return item
}

// anyPage is one that is right about as often as not.
func anyPage(r *rand.Rand) page.Page {
	p := page.Page{Kind: 1 + r.Intn(4), Txn: r.Uint64()}
	if r.Intn(20) == 0 {
		p.Kind = r.Intn(8) - 1
	}
	if p.Kind > 2 || r.Intn(20) == 0 {
		p.Next = anyNumber(r, 0, 1023)
	}
	if p.Kind == 1 || r.Intn(20) == 0 {
		for _, key := range anyKeys(r, r.Intn(8)) {
			p.Items = append(p.Items, anyItem(r, key))
		}
	}
	if p.Kind == 2 || r.Intn(20) == 0 {
		for _, key := range anyKeys(r, r.Intn(30)) {
			p.Kids = append(p.Kids, page.Kid{Key: key, Page: anyNumber(r, 500, 500, 0, 1023)})
		}
	}
	if p.Kind == 3 || r.Intn(20) == 0 {
		p.Data = make([]byte, r.Intn(245))
		r.Read(p.Data)
	}
	if p.Kind == 4 || r.Intn(20) == 0 {
		for range r.Intn(62) {
			p.IDs = append(p.IDs, anyNumber(r, 500, 500, 500, 0, 1023))
		}
		if r.Intn(8) > 0 {
			slices.Sort(p.IDs)
			p.IDs = slices.Compact(p.IDs)
		}
	}
	return p
}

// TestAnyPage: P4.1 and P4.2, pages of all sorts, beside the chapter's words.
func TestAnyPage(t *testing.T) {
	r := rand.New(rand.NewSource(4))
	right := 0
	for range 40000 {
		p := anyPage(r)
		if isRight(p) {
			mustRight(t, "any page", p)
			right++
		} else {
			mustWrong(t, "any page", p)
		}
	}
	if right < 8000 || right > 32000 {
		t.Errorf("%d of 40000 were right", right)
	}
}

// TestAnyBytes: P4.1 and P4.2, bytes of pages of which some were written over, sealed anew: they are a right page's just if this page's bytes are they.
func TestAnyBytes(t *testing.T) {
	r := rand.New(rand.NewSource(5))
	right := 0
	for range 60000 {
		p := anyPage(r)
		body := plain(p)[4:]
		for range r.Intn(3) {
			at := r.Intn(60)
			if at > 40 {
				at = r.Intn(252)
			}
			body[at] = byte(r.Intn(256) >> (r.Intn(2) * 6))
		}
		b := sealed(body)
		want := guess(b)
		if isRight(want) && bytes.Equal(plain(want), b) {
			mustRight(t, "any bytes", want)
			right++
		} else {
			mustFail(t, "any bytes", b, api.ErrForm)
		}
	}
	if right < 8000 || right > 52000 {
		t.Errorf("%d of 60000 were right", right)
	}
}
