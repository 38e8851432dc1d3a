package page_test

import (
	"math"
	"strings"
	"testing"

	"terrier/page"
)

// one is a right page of each kind, with one thing.
func one() []page.Page {
	return []page.Page{leaf(short("a", "x")), branch(kid("a", 5)), piece([]byte("x")), spare(5)}
}

// TestKinds: P4.1, the kinds' numbers.
func TestKinds(t *testing.T) {
	if page.Leaf != 1 || page.Branch != 2 || page.Piece != 3 || page.Spare != 4 {
		t.Error(page.Leaf, page.Branch, page.Piece, page.Spare)
	}
}

// TestKind: P4.1, a page is of one of the kinds, and has nothing that its kind hasn't.
func TestKind(t *testing.T) {
	for i, p := range one() {
		mustRight(t, "of its kind", p)
		for _, kind := range []int{0, 1, 2, 3, 4, 5, 255} {
			p.Kind = kind
			if kind != i+1 {
				mustNeither(t, "of another kind", p)
			}
		}
		for _, kind := range []int{-1, -5, 256 + i + 1, 1<<32 + i + 1, -255 + i, math.MinInt, math.MaxInt} {
			p.Kind = kind
			mustWrong(t, "of no kind", p)
		}
	}
	mustWrong(t, "nothing", page.Page{})
	for _, kind := range []int{-1, 0, 5, 6} {
		mustWrong(t, "of no kind, and empty", page.Page{Kind: kind})
	}
}

// TestForeign: P4.1, none has what another kind has, were it one thing, right or not; empty lists are nothing.
func TestForeign(t *testing.T) {
	for i, p := range append(one(), spare()) {
		add := []func(*page.Page){
			func(p *page.Page) { p.Items = []page.Item{short("a", "x")} },
			func(p *page.Page) { p.Kids = []page.Kid{kid("a", 5)} },
			func(p *page.Page) { p.Data = []byte{0} },
			func(p *page.Page) { p.IDs = []int{5} },
		}
		for k, with := range add {
			q := p
			with(&q)
			if k != min(i, 3) {
				mustWrong(t, "with what its kind hasn't", q)
			}
		}
		for k := range 4 {
			q := p
			empty := []func(){
				func() { q.Items = []page.Item{} }, func() { q.Kids = []page.Kid{} },
				func() { q.Data = []byte{} }, func() { q.IDs = []int{} },
			}
			if k != min(i, 3) {
				empty[k]()
				mustRight(t, "with an empty list", q)
			}
		}
	}
}

// TestEmpty: P4.1, it has at least one thing, but for a Spare.
func TestEmpty(t *testing.T) {
	mustNeither(t, "no items", leaf())
	mustNeither(t, "no kids", branch())
	mustNeither(t, "no bytes", piece(nil))
	mustNeither(t, "no bytes", piece([]byte{}))
	mustRight(t, "no numbers", spare())
	mustRight(t, "no numbers, and a next one", page.Page{Kind: page.Spare, Next: 9})
	mustRight(t, "no numbers", page.Page{Kind: page.Spare, IDs: []int{}})
}

// TestNext: P4.1, a page's number or 0, and 0 alone of a Leaf and a Branch.
func TestNext(t *testing.T) {
	for i, p := range append(one(), spare()) {
		for _, next := range []int{0, 1, 2, 500, 1022, 1023} {
			p.Next = next
			mustBe(t, "Next", p, next == 0 || i >= 2)
		}
		for _, next := range []int{1024, 1025, 65536 + 5, 1 << 31, 1<<32 - 1} {
			p.Next = next
			mustNeither(t, "Next", p)
		}
		for _, next := range []int{-1, -1023, 1 << 32, 1<<32 + 5, math.MinInt, math.MaxInt} {
			p.Next = next
			mustWrong(t, "Next", p)
		}
	}
}

// TestTxn: P4.1, any number.
func TestTxn(t *testing.T) {
	for _, p := range one() {
		for _, txn := range []uint64{0, 1, 255, 256, 1 << 32, 1 << 62, 1 << 63, math.MaxUint64} {
			p.Txn = txn
			mustRight(t, "Txn", p)
		}
	}
}

// TestKeyLength: P4.1, a key has 0 to 32 bytes.
func TestKeyLength(t *testing.T) {
	for _, n := range []int{0, 1, 31, 32, 33, 64, 200} {
		key := strings.Repeat("k", n)
		mustBe(t, "an item's key", leaf(short(key, "x")), n <= 32)
		mustBe(t, "a long item's key", leaf(long(key, 65, 9)), n <= 32)
		mustBe(t, "a kid's key", branch(kid(key, 9)), n <= 32)
		mustBe(t, "a later item's key", leaf(short("a", ""), short(key, "x")), n <= 32 && n > 0)
		mustBe(t, "a later kid's key", branch(kid("a", 8), kid(key, 9)), n <= 32 && n > 0)
	}
	for _, n := range []int{256, 257, 1 << 20} {
		key := strings.Repeat("k", n)
		mustWrong(t, "an item's key", leaf(short(key, "x")))
		mustWrong(t, "a kid's key", branch(kid(key, 9)))
	}
}

// TestSize: P4.1, Size is that of the Value up to 64, and from 65 to 4096 there is none, but More.
func TestSize(t *testing.T) {
	for _, size := range []int{-1, 0, 1, 63, 64, 65, 66, 4095, 4096, 4097, 65535, 65536, 65536 + 5, math.MinInt, math.MaxInt} {
		for _, value := range []int{0, 1, 62, 63, 64, 65, 66} {
			for _, more := range []int{-1, 0, 1, 9, 1023, 1024} {
				item := page.Item{Key: []byte("k"), Value: text(value, 'v'), Size: size, More: more}
				inline := size >= 0 && size <= 64 && value == size && more == 0
				apart := size >= 65 && size <= 4096 && value == 0 && more >= 1 && more <= 1023
				for _, p := range []page.Page{leaf(item), leaf(short("a", "x"), item), leaf(item, short("z", ""))} {
					if inline || apart {
						mustRight(t, "Size", p)
					} else {
						mustWrong(t, "Size", p)
					}
				}
			}
		}
	}
}

// TestSizeOfBytes: P4.1, of the items that have bytes, those that aren't right are no page's.
func TestSizeOfBytes(t *testing.T) {
	for _, more := range []int{0, 1, 2, 1022, 1023, 1024, 1 << 31} {
		mustBe(t, "More", leaf(long("k", 65, more)), more >= 1 && more <= 1023)
		mustBe(t, "More", leaf(long("k", 4096, more)), more >= 1 && more <= 1023)
		mustNeither(t, "More of what is too long", leaf(long("k", 4097, more)))
		mustNeither(t, "More of what is too long", leaf(long("k", 65535, more)))
	}
	mustWrong(t, "More", leaf(long("k", 65, 1<<32+5)))
	mustRight(t, "of no bytes", leaf(short("", "")))
	mustRight(t, "of no bytes", leaf(short("", ""), short("a", "")))
}

// TestRise: P4.1, keys and numbers rise.
func TestRise(t *testing.T) {
	for _, c := range []struct {
		a, b  string
		right bool
	}{
		{"a", "b", true}, {"a", "a", false}, {"b", "a", false},
		{"", "a", true}, {"", "", false}, {"a", "", false},
		{"a", "aa", true}, {"aa", "a", false}, {"aa", "b", true}, {"b", "aa", false},
		{"a", "a\x00", true}, {"a\x00", "a", false},
		{"\x7f", "\x80", true}, {"\x80", "\x7f", false}, {"\x00", "\xff", true}, {"\xff", "\x00", false},
	} {
		mustBe(t, "items", leaf(short(c.a, "z"), short(c.b, "y")), c.right)
		mustBe(t, "long items", leaf(long(c.a, 70, 9), long(c.b, 65, 8)), c.right)
		mustBe(t, "kids", branch(kid(c.a, 9), kid(c.b, 8)), c.right)
		first, last := "\x00"+c.a, "\xff\xff"+c.b
		mustRight(t, "items, from the front", leaf(short(first, "z"), short(last, "y")))
	}
	abc := []string{"a", "b", "c"}
	for _, c := range [][]int{{0, 1, 2}, {0, 2, 1}, {1, 0, 2}, {1, 2, 0}, {2, 0, 1}, {2, 1, 0}, {0, 0, 1}, {0, 1, 1}, {0, 1, 0}} {
		right := c[0] < c[1] && c[1] < c[2]
		mustBe(t, "items", leaf(short(abc[c[0]], ""), short(abc[c[1]], ""), short(abc[c[2]], "")), right)
		mustBe(t, "kids", branch(kid(abc[c[0]], 3), kid(abc[c[1]], 3), kid(abc[c[2]], 3)), right)
		mustBe(t, "numbers", spare(5+c[0], 5+c[1], 5+c[2]), right)
	}
	mustBe(t, "numbers", spare(255, 256), true)
	mustBe(t, "numbers", spare(256, 255), false)
	mustBe(t, "numbers", spare(9, 9), false)
}

// TestPageNumbers: P4.1, a kid's Page and each of IDs is 1 to 1023.
func TestPageNumbers(t *testing.T) {
	for _, id := range []int{0, 1, 2, 500, 1022, 1023, 1024, 1025, 65536 + 5, 1 << 31} {
		right := id >= 1 && id <= 1023
		mustBe(t, "a kid's page", branch(kid("a", id)), right)
		mustBe(t, "the last kid's page", branch(kid("a", 5), kid("b", id)), right)
		mustBe(t, "the first kid's page", branch(kid("a", id), kid("b", 5)), right)
		mustBe(t, "a number", spare(id), right)
	}
	mustNeither(t, "the first number", spare(0, 5))
	mustNeither(t, "the last number", spare(5, 1024))
	mustRight(t, "from end to end", spare(1, 1023))
	for _, id := range []int{-1, -1023, 1<<32 + 5, math.MinInt, math.MaxInt} {
		mustWrong(t, "a kid's page", branch(kid("a", id)))
		mustWrong(t, "a number", spare(id))
		mustWrong(t, "numbers", spare(5, id))
		mustWrong(t, "numbers", spare(id, 5))
	}
}

// TestRoom: P4.1, all goes into the room, which may be full to its last byte.
func TestRoom(t *testing.T) {
	for _, p := range full() {
		mustRight(t, "a full room", p)
		want := 237
		if p.Kind == page.Spare {
			want = 236
		}
		if page.Used(p) != want {
			t.Errorf("Used of kind %d: %d", p.Kind, page.Used(p))
		}
	}
	rooms := full()
	more := rooms[0]
	more.Items[2] = short("\x03abc", string(text(33, 7)))
	mustNeither(t, "a value of one byte more", more)
	more.Items[2] = short("\x03abcd", string(text(32, 7)))
	mustNeither(t, "a key of one byte more", more)
	more.Items[2] = short("\x03abc", string(text(31, 7)))
	mustRight(t, "a value of one byte less", more)
	more.Items = append(more.Items, short("\xff", ""))
	mustNeither(t, "an item more", more)
	more = rooms[1]
	more.Items[1] = short(string(text(32, 2)), string(text(63, 9)))
	mustRight(t, "a value of one byte less", more)
	more.Items = append(more.Items, long("\xff", 65, 9))
	mustNeither(t, "a long item more", more)
	more = rooms[2]
	more.Kids[6] = kid("\xff2345678901", 9)
	mustNeither(t, "a kid's key of one byte more", more)
	more.Kids[6] = kid("\xff23456789", 9)
	mustRight(t, "a kid's key of one byte less", more)
	mustNeither(t, "a byte more", piece(text(238, 1)))
	mustRight(t, "noughts", piece(text(237, 0)))
	mustNeither(t, "a number more", spare(append(rooms[4].IDs, 1000)...))
}

// TestExampleRoom: P4.1, example 1.
func TestExampleRoom(t *testing.T) {
	value := string(text(64, 'v'))
	a, b, c := string(text(32, 'a')), string(text(32, 'b')), string(text(32, 'c'))
	mustRight(t, "two", leaf(short(a, value), short(b, value)))
	mustNeither(t, "three", leaf(short(a, value), short(b, value), short(c, value)))
}

// TestUsed: P4.1, of any page, right or not, all that it has, whatever its kind is.
func TestUsed(t *testing.T) {
	for _, c := range []struct {
		p    page.Page
		want int
	}{
		{page.Page{}, 0},
		{page.Page{Txn: 9, Next: 9}, 0},
		{leaf(), 0}, {branch(), 0}, {piece(nil), 0}, {spare(), 0},
		{leaf(short("a", "x")), 5},
		{leaf(short("", "")), 3},
		{leaf(short("abc", ""), short("", "xy")), 11},
		{leaf(long("abc", 65, 5)), 10},
		{leaf(page.Item{Key: []byte("abc"), Value: text(100, 1), Size: 64}), 106},
		{leaf(page.Item{Key: []byte("abc"), Value: text(100, 1), Size: 65}), 10},
		{leaf(page.Item{Key: []byte("abc"), Value: text(100, 1), Size: -1, More: 9}), 106},
		{leaf(page.Item{Key: []byte("abc"), Value: text(100, 1), Size: math.MinInt}), 106},
		{leaf(page.Item{Key: []byte("abc"), Size: math.MaxInt}), 10},
		{leaf(page.Item{Key: text(300, 1), Size: 5}), 303},
		{branch(kid("abc", 5)), 8},
		{branch(kid("", -1), kid("", 1<<40)), 10},
		{branch(page.Kid{Key: text(300, 1)}), 305},
		{piece(text(1000, 1)), 1000},
		{spare(5, 3, -1, 1<<40, 5), 20},
		{page.Page{Kind: -1, Items: []page.Item{short("a", "x")}, Kids: []page.Kid{kid("a", 1)}, Data: text(7, 1), IDs: []int{1, 2}}, 26},
		{page.Page{Kind: page.Leaf, Kids: []page.Kid{kid("a", 1)}, Data: text(7, 1), IDs: []int{1, 2}}, 21},
		{page.Page{Kind: page.Spare, Items: []page.Item{short("a", "x")}}, 5},
	} {
		if got := page.Used(c.p); got != c.want {
			t.Errorf("Used(%+v): %d; want %d", c.p, got, c.want)
		}
	}
}

// TestUsedOfMuch: P4.1, up to 2^20 things, and lengths of 2^20.
func TestUsedOfMuch(t *testing.T) {
	const much = 1 << 20
	row := text(much, 1)
	for _, c := range []struct {
		p    page.Page
		want int
	}{
		{leaf(make([]page.Item, much)...), 3 * much},
		{branch(make([]page.Kid, much)...), 5 * much},
		{piece(row), much},
		{spare(make([]int, much)...), 4 * much},
		{leaf(page.Item{Key: row, Value: row, Size: 1}), 3 + 2*much},
		{leaf(page.Item{Key: row, Size: much}), 7 + much},
		{branch(page.Kid{Key: row}), 5 + much},
	} {
		if got := page.Used(c.p); got != c.want {
			t.Errorf("Used: %d; want %d", got, c.want)
		}
		mustWrong(t, "much", c.p)
	}
}
