package rev_test

import (
	"math"
	"math/rand"
	"slices"
	"testing"

	"terrier/api"
	"terrier/rev"
)

// TestExample: P10.1, the chapter's example, and some more by hand.
func TestExample(t *testing.T) {
	for _, c := range []struct {
		r    api.Rev
		tomb bool
		want string
	}{
		{api.Rev{Main: 1}, true, "\x00\x00\x00\x00\x00\x00\x00\x01\x5f\x00\x00\x00\x00\x00\x00\x00\x00\x74"},
		{api.Rev{Main: 1}, false, "\x00\x00\x00\x00\x00\x00\x00\x01\x5f\x00\x00\x00\x00\x00\x00\x00\x00"},
		{api.Rev{Main: 2, Sub: 3}, false, "\x00\x00\x00\x00\x00\x00\x00\x02_\x00\x00\x00\x00\x00\x00\x00\x03"},
		{api.Rev{Main: 0x0102030405060708, Sub: 0x1112131415161718}, true, "\x01\x02\x03\x04\x05\x06\x07\x08_\x11\x12\x13\x14\x15\x16\x17\x18t"},
		{api.Rev{Main: api.MaxRev, Sub: api.MaxRev}, false, "\x40\x00\x00\x00\x00\x00\x00\x00_\x40\x00\x00\x00\x00\x00\x00\x00"},
		{api.Rev{Main: api.MaxRev}, true, "\x40\x00\x00\x00\x00\x00\x00\x00_\x00\x00\x00\x00\x00\x00\x00\x00t"},
	} {
		if b, e := rev.Encode(c.r, c.tomb); string(b) != c.want || e != api.OK {
			t.Errorf("Encode(%v, %v): % x, %d", c.r, c.tomb, b, e)
		}
		if r, tomb, e := rev.Decode([]byte(c.want)); r != c.r || tomb != c.tomb || e != api.OK {
			t.Errorf("Decode(% x): %v, %v, %d", c.want, r, tomb, e)
		}
	}
}

// TestBounds: P10.1, Main is 1 to MaxRev and Sub 0 to MaxRev, each at its ends, whatever the other one is.
func TestBounds(t *testing.T) {
	wrongMains := []int64{0, -1, math.MinInt64, maxRev + 1, math.MaxInt64, -maxRev, -256}
	wrongSubs := []int64{-1, math.MinInt64, maxRev + 1, math.MaxInt64, -maxRev, -256}
	rightMains := []int64{1, 2, maxRev - 1, maxRev}
	rightSubs := []int64{0, 1, maxRev - 1, maxRev}
	for _, main := range rightMains {
		for _, sub := range rightSubs {
			mustRight(t, api.Rev{Main: main, Sub: sub})
		}
		for _, sub := range wrongSubs {
			mustWrong(t, api.Rev{Main: main, Sub: sub})
		}
	}
	for _, main := range wrongMains {
		for _, sub := range append(rightSubs, wrongSubs...) {
			mustWrong(t, api.Rev{Main: main, Sub: sub})
		}
	}
	mustWrong(t, api.Rev{})
}

// TestAllNumbers: P10.1 and P10.2, Decode undoes Encode, of right revisions and of no others.
func TestAllNumbers(t *testing.T) {
	for _, r := range pairs(numbers()) {
		if isRight(r) {
			mustRight(t, r)
		} else {
			mustWrong(t, r)
		}
	}
	few := rand.New(rand.NewSource(10))
	for range 40000 {
		r := api.Rev{Main: int64(few.Uint64() >> few.Intn(64)), Sub: int64(few.Uint64() >> few.Intn(64))}
		if isRight(r) {
			mustRight(t, r)
		} else {
			mustWrong(t, r)
		}
	}
}

// TestLength: P10.1, bytes of another number than 17, and than 18 with the tombstone's sign, are none's.
func TestLength(t *testing.T) {
	mustFail(t, nil)
	mustFail(t, []byte{})
	mustFail(t, []byte("t"))
	for _, r := range samples() {
		b := plain(r, "tt_t")
		for n := range len(b) + 1 { // what stands behind the n bytes is none of them
			got, tomb, e := rev.Decode(b[:n])
			switch n {
			case 17, 18:
				if got != r || tomb != (n == 18) || e != api.OK {
					t.Fatalf("%d bytes of % x: %v, %v, %d", n, b, got, tomb, e)
				}
			default:
				mustFail(t, b[:n])
			}
		}
		mustFail(t, b[1:18])
		mustFail(t, b[1:19])
		mustFail(t, plain(r, "t\x00"))
		mustFail(t, plain(r, "\x00t"))
		mustFail(t, plain(r, string(plain(r, ""))))
		mustFail(t, slices.Concat([]byte{0}, plain(r, "")))
		mustFail(t, slices.Delete(plain(r, ""), 8, 9)) // both numbers, with nothing between
		mustFail(t, slices.Delete(plain(r, "t"), 8, 9))
		mustFail(t, slices.Insert(plain(r, ""), 8, '_'))
		mustFail(t, make([]byte, 1<<16))
	}
}

// TestSigns: P10.1, another byte than "_" between the numbers, another than "t" behind them.
func TestSigns(t *testing.T) {
	for _, r := range []api.Rev{{Main: 1}, {Main: 7, Sub: 9}, {Main: maxRev}, {Main: maxRev, Sub: maxRev}, {Main: 0x5f5f5f5f5f5f5f, Sub: 0x7474747474747474 >> 2}} {
		mustRight(t, r)
		for c := range 256 {
			if c != '_' {
				b, tomb := plain(r, ""), plain(r, "t")
				b[8], tomb[8] = byte(c), byte(c)
				mustFail(t, b)
				mustFail(t, tomb)
			}
			if c != 't' {
				mustFail(t, plain(r, string([]byte{byte(c)})))
			}
		}
	}
}

// TestWrongNumbers: P10.1, bytes whose numbers are no revision's, by hand.
func TestWrongNumbers(t *testing.T) {
	zero, one := "\x00\x00\x00\x00\x00\x00\x00\x00", "\x00\x00\x00\x00\x00\x00\x00\x01"
	most, above := "\x40\x00\x00\x00\x00\x00\x00\x00", "\x40\x00\x00\x00\x00\x00\x00\x01"
	signed, all := "\x80\x00\x00\x00\x00\x00\x00\x01", "\xff\xff\xff\xff\xff\xff\xff\xff"
	last := "\x7f\xff\xff\xff\xff\xff\xff\xff"
	for _, text := range []string{"", "t"} {
		for _, main := range []string{zero, above, last, signed, all} {
			for _, sub := range []string{zero, one, most, above, last, signed, all} {
				mustFail(t, []byte(main+"_"+sub+text))
			}
		}
		for _, main := range []string{one, most} {
			for _, sub := range []string{above, last, signed, all} {
				mustFail(t, []byte(main+"_"+sub+text))
			}
			for _, sub := range []string{zero, one, most} {
				if _, tomb, e := rev.Decode([]byte(main + "_" + sub + text)); e != api.OK || tomb != (text == "t") {
					t.Errorf("% x: %v, %d", main+"_"+sub+text, tomb, e)
				}
			}
		}
	}
}

// TestAnyBytes: P10.1, of bytes of revisions some are turned, taken away or put between: they are a right one's just if the chapter says so.
func TestAnyBytes(t *testing.T) {
	few := rand.New(rand.NewSource(1010))
	right := 0
	for range 100000 {
		b := plain(api.Rev{Main: few.Int63() >> few.Intn(63), Sub: few.Int63() >> few.Intn(63)}, textOf(few.Intn(2) == 0))
		for range few.Intn(3) {
			switch at := few.Intn(len(b)); few.Intn(6) {
			case 0:
				b = slices.Delete(b, at, at+1)
			case 1:
				b = slices.Insert(b, at, byte(few.Intn(256)))
			default:
				b[at] ^= 1 << few.Intn(8)
			}
		}
		want, sign, ok := guess(b)
		if !ok {
			mustFail(t, b)
			continue
		}
		right++
		if r, tomb, e := rev.Decode(b); r != want || tomb != sign || e != api.OK {
			t.Fatalf("Decode(% x): %v, %v, %d", b, r, tomb, e)
		}
	}
	if right < 20000 || right > 80000 {
		t.Errorf("%d of 100000 were right", right)
	}
}
