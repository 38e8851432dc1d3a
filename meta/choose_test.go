package meta_test

import (
	"bytes"
	"cmp"
	"math/rand"
	"slices"
	"testing"

	"terrier/meta"
)

// of is a meta of this number.
func of(txn uint64) meta.Meta { return meta.Meta{Txn: txn, Root: 5, Spare: 3, Size: 16} }

// numbers are some, even and odd, near one another and far apart.
func numbers() []uint64 {
	return []uint64{
		0, 1, 2, 3, 4, 5, 6, 254, 255, 256, 257, 511, 512, 65534, 65535, 65536, 65537, 1<<32 - 1, 1 << 32, 1<<32 + 1,
		1<<63 - 2, 1<<63 - 1, 1 << 63, 1<<63 + 1, 1<<63 + 2, 1<<64 - 3, 1<<64 - 2, 1<<64 - 1,
	}
}

// junk are pages that are no meta's: of the wrong length, of another checksum, of another form.
func junk() [][]byte {
	whole := plain(of(4))
	turned := slices.Clone(whole)
	turned[200] ^= 4
	other := bodyOf(of(5))
	other[0] = 1
	return [][]byte{
		nil, {}, {0}, whole[:255], append(slices.Clone(whole), 0), append(plain(of(5)), 0), sealed(bodyOf(of(5))[:251]),
		make([]byte, 256), bytes.Repeat([]byte{255}, 256), turned, sealed(make([]byte, 252)), sealed(other),
		plain(meta.Meta{Txn: 4, Root: 1, Size: 16}), plain(meta.Meta{Txn: 5, Spare: 16, Size: 16}), plain(meta.Meta{Txn: 5, Size: 7}),
	}
}

// pages are rows of all sorts, metas' and none's.
func pages() [][]byte {
	out := junk()
	for _, m := range samples() {
		out = append(out, plain(m))
	}
	return out
}

// TestExample: P5.2, the chapter's example.
func TestExample(t *testing.T) {
	four, five := plain(of(4)), plain(of(5))
	mustChoose(t, "4 at page 0, 5 at page 1", four, five, of(5))
	for _, other := range junk() {
		mustChooseNone(t, "4 at page 1 alone", other, four)
		mustChooseNone(t, "5 at page 0 alone", five, other)
		mustChoose(t, "4 at page 0 alone", four, other, of(4))
		mustChoose(t, "5 at page 1 alone", other, five, of(5))
	}
	mustChooseNone(t, "at each other's place", five, four)
}

// TestNone: P5.2, ErrNone where no page is a meta's.
func TestNone(t *testing.T) {
	for _, zero := range junk() {
		for _, one := range junk() {
			mustChooseNone(t, "none", zero, one)
		}
	}
}

// TestAnyPair: P5.2, pages of all sorts, beside the chapter's words: of the metas that stand at their place the one with the greater Txn.
func TestAnyPair(t *testing.T) {
	for _, zero := range pages() {
		for _, one := range pages() {
			standing := []meta.Meta{}
			for at, b := range [][]byte{zero, one} {
				if m, ok := guess(b); ok && m.Txn%2 == uint64(at) {
					standing = append(standing, m)
				}
			}
			slices.SortFunc(standing, func(a, b meta.Meta) int { return cmp.Compare(b.Txn, a.Txn) })
			if len(standing) > 0 {
				mustChoose(t, "any pair", zero, one, standing[0])
			} else {
				mustChooseNone(t, "any pair", zero, one)
			}
		}
	}
}

// TestPlaces: P5.2, any two numbers, also the same ones, at their places or not: of those at their places the greater one.
func TestPlaces(t *testing.T) {
	for _, a := range numbers() {
		for _, b := range numbers() {
			zero, one := plain(of(a)), plain(of(b))
			switch even, odd := a%2 == 0, b%2 == 1; {
			case even && odd:
				mustChoose(t, "both", zero, one, of(max(a, b)))
			case even:
				mustChoose(t, "the page 0's", zero, one, of(a))
			case odd:
				mustChoose(t, "the page 1's", zero, one, of(b))
			default:
				mustChooseNone(t, "none", zero, one)
			}
		}
	}
}

// TestSamePage: P5.2, the same page twice: it stands at its place once.
func TestSamePage(t *testing.T) {
	for _, m := range samples() {
		b := plain(m)
		mustChoose(t, "twice", b, b, m)
	}
	for _, b := range junk() {
		mustChooseNone(t, "twice", b, b)
	}
}

// TestOwnFields: P5.2, it's the number alone that counts, and all fields told are those of the one meta.
func TestOwnFields(t *testing.T) {
	small, great := meta.Meta{Root: 2, Spare: 7, Size: 8}, meta.Meta{Root: 1023, Spare: 900, Size: 1024}
	for _, c := range [][2]uint64{{0, 1}, {2, 1}, {4, 5}, {1 << 40, 3}, {0, 1<<64 - 1}} {
		for _, swap := range []bool{false, true} {
			a, b := small, great
			if swap {
				a, b = b, a
			}
			a.Txn, b.Txn = c[0], c[1]
			want := a
			if b.Txn > a.Txn {
				want = b
			}
			mustChoose(t, "its fields", plain(a), plain(b), want)
		}
	}
}

// elders are what may stand at a meta's place ahead of it: one that stood there, lately or long ago, one of the other place, and what is no meta's.
func elders(next meta.Meta) [][]byte {
	out := [][]byte{plain(next), plain(of(next.Txn + 1))}
	for _, b := range junk() {
		if len(b) == 256 {
			out = append(out, b)
		}
	}
	for _, back := range []uint64{1, 2, 4, 256, 1 << 32} {
		if next.Txn >= back {
			alike := next
			alike.Txn -= back
			out = append(out, plain(alike), plain(of(alike.Txn)))
		}
	}
	r := rand.New(rand.NewSource(int64(next.Txn)))
	for range 4 {
		b := make([]byte, 256)
		r.Read(b)
		out = append(out, b)
	}
	return out
}

// mustBeOneOf writes the next meta's first bytes over the elder ones, each number of them: Choose tells the next one if all of its bytes stand there, else the one that stood.
func mustBeOneOf(t *testing.T, stands, next meta.Meta, elder []byte) {
	t.Helper()
	there, whole := plain(stands), plain(next)
	for n := range 257 {
		b := slices.Clone(elder)
		copy(b, whole[:n])
		want := stands
		if bytes.Equal(b, whole) {
			want = next
		}
		if next.Txn%2 == 0 {
			mustChoose(t, "to page 0", b, there, want)
		} else {
			mustChoose(t, "to page 1", there, b, want)
		}
	}
}

// TestTorn: P5.3, the next meta's bytes, of which any number of the first ones came, from even to odd and from odd to even, over anything.
func TestTorn(t *testing.T) {
	for _, txn := range numbers() {
		if txn == 1<<64-1 { // no number follows it
			continue
		}
		alike := of(txn + 1) // but for its number it is the one that stands
		other := meta.Meta{Txn: txn + 1, Root: 1023, Spare: 2, Size: 1024}
		for _, next := range []meta.Meta{alike, other} {
			for _, elder := range elders(next) {
				mustBeOneOf(t, of(txn), next, elder)
			}
		}
	}
}

// TestLastNumber: P5.2, behind 2^64 - 1 no greater one comes: it is chosen whatever the other page has.
func TestLastNumber(t *testing.T) {
	last := of(1<<64 - 1)
	for _, elder := range elders(of(0)) {
		for n := range 257 {
			b := slices.Clone(elder)
			copy(b, plain(of(0))[:n])
			mustChoose(t, "beside the last one", b, plain(last), last)
		}
	}
}

// TestCrashes: P5.3, a long run in which each write may be torn anywhere: what is chosen is the last one that was whole, and the next one follows it.
func TestCrashes(t *testing.T) {
	r := rand.New(rand.NewSource(53))
	for range 40 {
		now := meta.Meta{Txn: 1, Spare: 2, Size: 8 + r.Intn(1017)}
		if r.Intn(2) == 0 {
			now.Txn = 1<<(8*(1+r.Intn(7))) - 20
		}
		elder := now
		elder.Txn--
		pages := [2][]byte{}
		pages[elder.Txn%2], pages[now.Txn%2] = plain(elder), plain(now)
		for range 300 {
			next := meta.Meta{Txn: now.Txn + 1, Root: 2 + r.Intn(now.Size-2), Spare: 2 + r.Intn(now.Size-2), Size: now.Size}
			b, _ := meta.Encode(next)
			at := next.Txn % 2
			copy(pages[at], b[:min(r.Intn(400), 256)])
			if bytes.Equal(pages[at], b) {
				now = next
			}
			mustChoose(t, "a crash", pages[0], pages[1], now)
		}
	}
}
