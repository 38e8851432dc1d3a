package index_test

import (
	"testing"
)

// TestGet: P12.2, as the key's history tells: ahead of its first revision, at each, between and behind, below 0 and at the ends; false of a key without one.
func TestGet(t *testing.T) {
	x, p := built(t, usual()...)
	mustMiss(t, x, "a", least, -1, 0, 1, 4, 5)
	mustGet(t, x, "a", 2, at(2, 1), 2, 1)
	mustGet(t, x, "a", 3, at(2, 1), 2, 1)
	mustGet(t, x, "a", 6, at(6, 2), 6, 1)
	mustGet(t, x, "a", 7, at(7, 1), 6, 2)
	mustGet(t, x, "a", greatest, at(7, 1), 6, 2)
	mustGet(t, x, "b", 4, at(4, 7), 2, 2)
	mustGet(t, x, "b", 5, at(4, 7), 2, 2)
	mustMiss(t, x, "b", 1, 6, 7, greatest)
	mustGet(t, x, "\xff\xff", 8, at(7, 0), 7, 1)
	mustMiss(t, x, "\xff\xff", 6, 9, 10)
	for _, key := range []string{"c", "aa", "a\x00", "abc", "\xff", "\xff\xff\xff", "\x00"} {
		mustMiss(t, x, key, least, 0, 2, 5, 9, greatest)
	}
	mustBeLike(t, x, p)
}

// TestRange: P12.2, the keys of each kind of range that are there, rising.
func TestRange(t *testing.T) {
	x, _ := built(t, usual()...)
	none, ab := hit("", at(3, 0), 3, 1), hit("ab", at(4, 1), 4, 1)
	b := hit("b", at(4, 7), 2, 2)
	late, top := hit("a", at(6, 2), 6, 1), hit("\xff\xff", at(7, 0), 7, 1)
	mustRange(t, x, "", all, 1)
	mustRange(t, x, "", all, 2, hit("a", at(2, 1), 2, 1), hit("b", at(2, 0), 2, 1))
	mustRange(t, x, "", all, 3, none, hit("a", at(2, 1), 2, 1), hit("b", at(2, 0), 2, 1))
	mustRange(t, x, "", all, 4, none, ab, b)
	mustRange(t, x, "", all, 5, none, ab, b)
	mustRange(t, x, "", all, 6, none, late, ab)
	mustRange(t, x, "", all, 8, none, hit("a", at(7, 1), 6, 2), ab, top)
	mustRange(t, x, "", all, greatest, none, hit("a", at(7, 1), 6, 2), ab)
	mustRange(t, x, "", all, 0)
	mustRange(t, x, "", all, -1)
	mustRange(t, x, "", all, least)
	// one key
	mustRange(t, x, "ab", "", 6, ab)
	mustRange(t, x, "", "", 6, none)
	mustRange(t, x, "a", "", 4)
	mustRange(t, x, "aa", "", 6)
	mustRange(t, x, "b", "", 6)
	// up to an end
	mustRange(t, x, "a", "b", 6, late, ab)
	mustRange(t, x, "a", "ab", 6, late)
	mustRange(t, x, "a", "ab\x00", 6, late, ab)
	mustRange(t, x, "a\x00", "b", 6, ab)
	mustRange(t, x, "aa", "az", 6, ab)
	mustRange(t, x, "", "a", 6, none)
	mustRange(t, x, "", "\x00\x00", 6, none)
	mustRange(t, x, "ab", "b", 4, ab)
	mustRange(t, x, "ab", "b\x00", 4, ab, b)
	mustRange(t, x, "b", "\xff", 7)
	mustRange(t, x, "b", "\xff\xff\xff", 7, top)
	// from a key on
	mustRange(t, x, "a\x00", all, 7, ab, top)
	mustRange(t, x, "\xff\xff", all, 7, top)
	mustRange(t, x, "\xff\xff\x00", all, 7)
	// without a key
	mustRange(t, x, "b", "a", 6)
	mustRange(t, x, "ab", "ab", 6)
	mustRange(t, x, "\xff\xff", "\x01", 7)
	mustRange(t, x, "a", "\x00\x00", 7)
}

// TestSince: P12.2, the changes of all keys in the range from a Main on, in the order of revisions, several of one Main by their Subs.
func TestSince(t *testing.T) {
	x, _ := built(t, usual()...)
	early := put("b", at(2, 0))
	mustSince(t, x, "", all, 10)
	mustSince(t, x, "", all, greatest)
	mustSince(t, x, "", all, 9, gone("\xff\xff", at(9, 4)))
	mustSince(t, x, "", all, 8, gone("\xff\xff", at(9, 4)))
	mustSince(t, x, "", all, 6, put("a", at(6, 2)), gone("b", at(6, 3)), put("\xff\xff", at(7, 0)), put("a", at(7, 1)), gone("\xff\xff", at(9, 4)))
	for _, n := range []int64{2, 1, 0, -1, least} {
		mustSince(t, x, "", all, n, early, put("a", at(2, 1)), put("", at(3, 0)), gone("a", at(4, 0)), put("ab", at(4, 1)), put("b", at(4, 7)),
			put("a", at(6, 2)), gone("b", at(6, 3)), put("\xff\xff", at(7, 0)), put("a", at(7, 1)), gone("\xff\xff", at(9, 4)))
	}
	mustSince(t, x, "a", "", 4, gone("a", at(4, 0)), put("a", at(6, 2)), put("a", at(7, 1)))
	mustSince(t, x, "a", "", 5, put("a", at(6, 2)), put("a", at(7, 1)))
	mustSince(t, x, "", "", 0, put("", at(3, 0)))
	mustSince(t, x, "", "", 4)
	mustSince(t, x, "c", "", 0)
	mustSince(t, x, "a", "b", 3, gone("a", at(4, 0)), put("ab", at(4, 1)), put("a", at(6, 2)), put("a", at(7, 1)))
	mustSince(t, x, "ab", "b\x00", 3, put("ab", at(4, 1)), put("b", at(4, 7)), gone("b", at(6, 3)))
	mustSince(t, x, "b", "a", 0)
	mustSince(t, x, "b", "b", 0)
	mustSince(t, x, "aa", all, 5, gone("b", at(6, 3)), put("\xff\xff", at(7, 0)), gone("\xff\xff", at(9, 4)))
}

// TestCut: P12.2, what a range tells is what its two parts tell, cut at any key within.
func TestCut(t *testing.T) {
	for _, kind := range kinds(t) {
		x, p := kind()
		cuts := append(p.bounds(), "\xfe")
		for _, n := range p.asked() {
			for _, cut := range cuts {
				if cut == "" || cut == all { // no end of a range that is cut there
					continue
				}
				whole := x.Range(nil, []byte(all), n)
				parts := append(x.Range(nil, []byte(cut), n), x.Range([]byte(cut), []byte(all), n)...)
				if !hitsAlike(parts, whole) {
					t.Fatalf("Range(%d) cut at %q: %v; want %v", n, cut, parts, whole)
				}
				top := []byte("\xff\xff")
				whole = x.Range([]byte("\x00"), top, n)
				parts = append(x.Range([]byte("\x00"), []byte(cut), n), x.Range([]byte(cut), top, n)...)
				if cut < string(top) && !hitsAlike(parts, whole) {
					t.Fatalf("Range(%d) cut at %q: %v; want %v", n, cut, parts, whole)
				}
				both := len(x.Since(nil, []byte(cut), n)) + len(x.Since([]byte(cut), []byte(all), n))
				if both != len(x.Since(nil, []byte(all), n)) {
					t.Fatalf("Since(%d) cut at %q: %d", n, cut, both)
				}
			}
		}
	}
}
