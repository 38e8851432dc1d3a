package mvcc_test

import (
	"testing"

	"terrier/api"
	"terrier/db"
	"terrier/disk"
	"terrier/mvcc"
	"terrier/page"
	"terrier/pager"
)

// stands is what stands in a database that is made by hand.
type stands struct {
	rev, floor, done int64
	rows             []row
}

// at is a put that stands where its Mod and this Sub say.
func at(sub int64, x api.KV) row { return row{place(x.Mod, sub, ""), put(x)} }

// ended is a tombstone.
func ended(main, sub int64, key string) row { return row{place(main, sub, "t"), tomb(key)} }

// lay lays it into the database; what is 0 stands nowhere.
func (x stands) lay(t *testing.T, b *db.DB) {
	t.Helper()
	for name, n := range map[string]int64{"rev": x.rev, "floor": x.floor, "done": x.done} {
		if n != 0 {
			mustBe(t, "Put", b.Put("meta", []byte(name), eight(n)), api.OK)
		}
	}
	for _, r := range x.rows {
		mustBe(t, "Put", b.Put("key", r.at, r.value), api.OK)
	}
}

// base is the database.
func (x stands) base(t *testing.T) *db.DB {
	t.Helper()
	_, b := baseOf(t, 100)
	x.lay(t, b)
	return b
}

// mustOpenAs asks for this error of Open, and that it has changed nothing.
func mustOpenAs(t *testing.T, what string, b *db.DB, want api.Errno) *mvcc.Store {
	t.Helper()
	pages, was := b.Pages(), b.Check()
	s, e := mvcc.Open(b)
	if e != want || (s == nil) != (e != api.OK) {
		t.Fatalf("%s: Open: %v, %d; want %d", what, s, e, want)
	}
	if b.Pages() != pages || b.Check() != was {
		t.Fatalf("%s: Open has changed the database", what)
	}
	return s
}

// TestOpenNil: P15.1.
func TestOpenNil(t *testing.T) {
	mustOpenAs(t, "nil", nil, api.ErrArg)
}

// TestOpenEmpty: P15.1, an empty database's store has revision 0, and nothing is written.
func TestOpenEmpty(t *testing.T) {
	d, b := baseOf(t, 8)
	done := d.Done()
	s := mustOpenAs(t, "empty", b, api.OK)
	w := &twin{d: d, s: s}
	w.mustTell(t, "empty")
	if names, e := b.Buckets(); len(names) != 0 || e != api.OK || d.Done() != done {
		t.Fatalf("an empty store has the buckets %q, %d", names, e)
	}
}

// TestOpenAgain: P15.1, P15.6, one that was committed and opened again; what wasn't committed is gone.
func TestOpenAgain(t *testing.T) {
	w := twinOf(t, 100)
	w.commit(t)
	w.reopen(t)
	w.mustTell(t, "nothing")
	w.puts(t, "a", "1")
	w.commit(t)
	w.puts(t, "b", "2")
	w.reopen(t)
	w.mustTell(t, "behind an opening")
	w.puts(t, "b", "3")
	w.compact(t, 1)
	w.commit(t)
	w.puts(t, "a", "4")
	w.compact(t, 3)
	w.reopen(t)
	w.mustTell(t, "behind another")
}

// TestOpenInPlace: P15.1, what isn't committed yet stands in the database all the same.
func TestOpenInPlace(t *testing.T) {
	w := rich(t)
	w.compact(t, 6)
	w.sweep(t, 2)
	w.s = open(t, w.s.Base())
	w.mustTell(t, "opened in place")
	w.puts(t, "a", "more")
	w.mustTell(t, "behind a write")
}

// TestOpenNumbers: P15.1, each number of eight bytes, and in bounds.
func TestOpenNumbers(t *testing.T) {
	for _, name := range []string{"rev", "floor", "done"} {
		for _, value := range []string{"", "\x00", "\x01", "\x00\x00\x00\x00\x00\x00\x01", "\x00\x00\x00\x00\x00\x00\x00\x00\x00", "\x00\x00\x00\x00\x00\x00\x00\x01\x00", text(0, 300)} {
			b := stands{rev: 5, floor: 4, done: 3}.base(t)
			mustBe(t, "Put", b.Put("meta", []byte(name), []byte(value)), api.OK)
			mustOpenAs(t, name+" of other bytes", b, api.ErrForm)
		}
	}
	for _, x := range []struct {
		stands
		want api.Errno
	}{
		{stands{rev: 1}, api.OK},
		{stands{rev: maxRev}, api.OK},
		{stands{rev: maxRev + 1}, api.ErrForm},
		{stands{rev: greatest}, api.ErrForm},
		{stands{rev: least}, api.ErrForm},
		{stands{rev: -1}, api.ErrForm},
		{stands{rev: maxRev, floor: maxRev}, api.OK},
		{stands{rev: maxRev, floor: maxRev, done: maxRev}, api.OK},
		{stands{rev: maxRev + 1, floor: maxRev + 1, done: maxRev + 1}, api.ErrForm},
		{stands{rev: 5, floor: 5}, api.OK},
		{stands{rev: 5, floor: 1, done: 1}, api.OK},
		{stands{rev: 5, floor: 6}, api.ErrForm},
		{stands{floor: 1}, api.ErrForm},
		{stands{rev: 5, floor: -1}, api.ErrForm},
		{stands{rev: 5, floor: least}, api.ErrForm},
		{stands{rev: 5, floor: 4, done: 4}, api.OK},
		{stands{rev: 5, floor: 4, done: 5}, api.ErrForm},
		{stands{rev: 5, floor: 4, done: 6}, api.ErrForm},
		{stands{rev: 5, done: 1}, api.ErrForm},
		{stands{done: 1}, api.ErrForm},
		{stands{rev: 5, floor: 4, done: -1}, api.ErrForm},
		{stands{rev: 5, floor: 4, done: least}, api.ErrForm},
		{stands{rev: least, floor: least, done: least}, api.ErrForm},
	} {
		s := mustOpenAs(t, "numbers", x.base(t), x.want)
		if x.want == api.OK && (s.Rev() != x.rev || s.Floor() != x.floor) {
			t.Fatalf("Rev %d, Floor %d; want %d, %d", s.Rev(), s.Floor(), x.rev, x.floor)
		}
	}
}

// TestOpenNoughts: P15.1, a number that stands there as 0 is 0.
func TestOpenNoughts(t *testing.T) {
	_, b := baseOf(t, 60)
	for _, name := range []string{"rev", "floor", "done"} {
		mustBe(t, "Put", b.Put("meta", []byte(name), eight(0)), api.OK)
	}
	if s := mustOpenAs(t, "noughts", b, api.OK); s.Rev() != 0 || s.Floor() != 0 {
		t.Fatalf("Rev %d, Floor %d", s.Rev(), s.Floor())
	}
}

// TestOpenBeside: what stands in other buckets, or under other names, is none of the store's.
func TestOpenBeside(t *testing.T) {
	b := stands{rev: 1, rows: []row{at(0, kv("a", "x", 1, 1, 1))}}.base(t)
	for _, x := range [][2]string{{"sys", "rev"}, {"lease", "k"}, {"keys", ""}, {"meta", ""}, {"meta", "other"}, {"meta", "re"}, {"meta", "revs"}} {
		mustBe(t, "Put", b.Put(x[0], []byte(x[1]), []byte("anything")), api.OK)
	}
	for i := range 20 { // ahead of "rev"
		mustBe(t, "Put", b.Put("meta", []byte(text(i, i)), []byte(text(i, 300))), api.OK)
	}
	s := mustOpenAs(t, "beside", b, api.OK)
	if got, e := s.Range(nil, []byte(all), 0); e != api.OK || !sameKVs(got, []api.KV{kv("a", "x", 1, 1, 1)}) {
		t.Fatalf("Range: %v, %d", got, e)
	}
}

// TestOpenPlaces: P15.1, a key that is no revision's.
func TestOpenPlaces(t *testing.T) {
	value := put(kv("a", "x", 1, 1, 1))
	for _, x := range []struct {
		at   string
		want api.Errno
	}{
		{string(place(1, 0, "")), api.OK},
		{"", api.ErrForm},
		{"a", api.ErrForm},
		{"rev", api.ErrForm},
		{string(eight(1)), api.ErrForm},
		{string(place(1, 0, "")[:16]), api.ErrForm},
		{string(place(1, 0, "T")), api.ErrForm},
		{string(place(1, 0, "u")), api.ErrForm},
		{string(place(1, 0, "tt")), api.ErrForm},
		{string(place(0, 0, "")), api.ErrForm},
		{string(place(-1, 0, "")), api.ErrForm},
		{string(place(1, -1, "")), api.ErrForm},
		{string(place(1, maxRev+1, "")), api.ErrForm},
		{string(place(maxRev+1, 0, "")), api.ErrForm},
		{string(eight(1)) + "-" + string(eight(0)), api.ErrForm},
	} {
		b := stands{rev: maxRev, rows: []row{{[]byte(x.at), value}}}.base(t)
		mustOpenAs(t, "the key "+x.at, b, x.want)
	}
}

// TestOpenRecords: P15.1, a value that is no record's, or not that of its revision.
func TestOpenRecords(t *testing.T) {
	whole := put(kv("a", "x", 1, 1, 1))
	for what, x := range map[string]struct {
		row
		want api.Errno
	}{
		"a put":                     {row{place(1, 0, ""), whole}, api.OK},
		"a long put":                {at(0, kv(text(1, 64), text(1, 1024), 1, 1, 1)), api.OK},
		"a put with a lease":        {at(0, api.KV{Key: []byte("a"), Create: 1, Mod: 1, Version: 1, Lease: maxRev}), api.OK},
		"nothing":                   {row{place(1, 0, ""), nil}, api.ErrForm},
		"nothing of a tombstone":    {row{place(1, 0, "t"), nil}, api.ErrForm},
		"a byte too few":            {row{place(1, 0, ""), whole[:len(whole)-1]}, api.ErrForm},
		"a byte too many":           {row{place(1, 0, ""), append(append([]byte{}, whole...), 0)}, api.ErrForm},
		"a tombstone for a put":     {row{place(1, 0, ""), tomb("a")}, api.ErrForm},
		"a put for a tombstone":     {row{place(1, 0, "t"), whole}, api.ErrForm},
		"an empty key":              {at(0, kv("", "x", 1, 1, 1)), api.ErrForm},
		"a long key":                {at(0, kv(text(1, 65), "x", 1, 1, 1)), api.ErrForm},
		"a long value":              {at(0, kv("a", text(1, 1025), 1, 1, 1)), api.ErrForm},
		"no version":                {at(0, kv("a", "x", 1, 1, 0)), api.ErrForm},
		"another Mod":               {row{place(2, 0, ""), put(kv("a", "x", 1, 1, 1))}, api.ErrForm},
		"a later Mod":               {row{place(1, 0, ""), put(kv("a", "x", 1, 2, 1))}, api.ErrForm},
		"a tombstone's long key":    {row{place(1, 0, "t"), tomb(text(1, 65))}, api.ErrForm},
		"a tombstone's key is none": {row{place(1, 0, "t"), tomb("")}, api.ErrForm},
		"neither":                   {row{place(1, 0, ""), []byte("\x03\x00\x01a")}, api.ErrForm},
	} {
		for _, floor := range []int64{0, 3} {
			mustOpenAs(t, what, stands{rev: 3, floor: floor, rows: []row{x.row}}.base(t), x.want)
			behind := row{place(3, 0, x.sign()), x.value}
			if x.want == api.ErrForm && len(x.value) > 0 {
				mustOpenAs(t, what+" behind a put", stands{rev: 3, floor: floor, rows: []row{at(0, kv("b", "", 1, 1, 1)), behind}}.base(t), x.want)
			}
		}
	}
}

// sign is what stands behind a revision's numbers.
func (r row) sign() string { return string(r.at[17:]) }

// TestOpenOrder: P15.1, changes that can't be in that order, and some that can.
func TestOpenOrder(t *testing.T) {
	a := func(create, mod, version int64) api.KV { return kv("a", "", create, mod, version) }
	for what, x := range map[string]struct {
		want api.Errno
		stands
	}{
		"no change of the revision":       {api.OK, stands{rev: 9}},
		"revisions without a change":      {api.OK, stands{rev: 9, rows: []row{at(0, a(2, 2, 1)), at(0, a(2, 5, 2))}}},
		"puts and a tombstone":            {api.OK, stands{rev: 4, rows: []row{at(0, a(1, 1, 1)), at(0, a(1, 2, 2)), ended(3, 0, "a"), at(0, a(4, 4, 1))}}},
		"all in one write":                {api.OK, stands{rev: 1, rows: []row{at(0, a(1, 1, 1)), ended(1, 1, "a"), at(2, a(1, 1, 1)), at(3, a(1, 1, 2)), ended(1, 4, "a")}}},
		"a change above the revision":     {api.ErrForm, stands{rev: 1, rows: []row{at(0, a(1, 1, 1)), at(0, a(1, 2, 2))}}},
		"a change, but no revision":       {api.ErrForm, stands{rows: []row{at(0, a(1, 1, 1))}}},
		"a tombstone above the revision":  {api.ErrForm, stands{rev: 1, rows: []row{at(0, a(1, 1, 1)), ended(2, 0, "a")}}},
		"a version left out":              {api.ErrForm, stands{rev: 2, rows: []row{at(0, a(1, 1, 1)), at(0, a(1, 2, 3))}}},
		"a version twice":                 {api.ErrForm, stands{rev: 2, rows: []row{at(0, a(1, 1, 1)), at(0, a(1, 2, 1))}}},
		"another Create":                  {api.ErrForm, stands{rev: 2, rows: []row{at(0, a(1, 1, 1)), at(0, a(2, 2, 2))}}},
		"a new one without an end":        {api.ErrForm, stands{rev: 2, rows: []row{at(0, a(1, 1, 1)), at(0, a(2, 2, 1))}}},
		"a tombstone of nothing":          {api.ErrForm, stands{rev: 2, rows: []row{ended(1, 0, "a")}}},
		"a tombstone of another key":      {api.ErrForm, stands{rev: 2, rows: []row{at(0, a(1, 1, 1)), ended(2, 0, "b")}}},
		"two tombstones":                  {api.ErrForm, stands{rev: 3, rows: []row{at(0, a(1, 1, 1)), ended(2, 0, "a"), ended(3, 0, "a")}}},
		"a put and a tombstone at once":   {api.ErrForm, stands{rev: 1, rows: []row{at(0, a(1, 1, 1)), ended(1, 0, "a")}}},
		"it goes on behind its end":       {api.ErrForm, stands{rev: 3, rows: []row{at(0, a(1, 1, 1)), ended(2, 0, "a"), at(0, a(1, 3, 2))}}},
		"it begins with a later version":  {api.ErrForm, stands{rev: 3, rows: []row{at(0, a(3, 3, 2))}}},
		"it begins with an elder Create":  {api.ErrForm, stands{rev: 3, rows: []row{at(0, a(2, 3, 1))}}},
		"it begins within":                {api.ErrForm, stands{rev: 3, rows: []row{at(0, a(2, 3, 2))}}},
		"a write begins with its second":  {api.ErrForm, stands{rev: 3, rows: []row{at(1, a(3, 3, 1))}}},
		"a write's change is left out":    {api.ErrForm, stands{rev: 3, rows: []row{at(0, a(3, 3, 1)), at(2, a(3, 3, 2))}}},
		"a later write has no first one":  {api.ErrForm, stands{rev: 3, rows: []row{at(0, a(1, 1, 1)), at(1, a(1, 2, 2))}}},
		"a wide Sub":                      {api.ErrForm, stands{rev: 3, rows: []row{at(maxRev, a(3, 3, 1))}}},
		"the greatest version":            {api.ErrForm, stands{rev: 3, floor: 2, rows: []row{at(0, a(1, 2, maxRev)), at(0, a(1, 3, maxRev))}}},
		"one key's fault behind another":  {api.ErrForm, stands{rev: 3, rows: []row{at(0, kv("b", "", 1, 1, 1)), at(0, kv("b", "", 1, 2, 2)), ended(3, 0, "a")}}},
		"a fault ahead of what is right":  {api.ErrForm, stands{rev: 3, rows: []row{ended(1, 0, "a"), at(0, a(2, 2, 1)), at(0, a(2, 3, 2))}}},
		"a prefix is another key":         {api.ErrForm, stands{rev: 3, rows: []row{at(0, kv("aa", "", 1, 1, 1)), ended(2, 0, "a")}}},
		"a later put is at the last Main": {api.OK, stands{rev: maxRev, rows: []row{at(0, a(1, 1, 1)), at(0, a(1, maxRev, 2))}}},
	} {
		mustOpenAs(t, what, x.base(t), x.want)
	}
}

// TestOpenSwept: P15.1, up to the floor what came ahead may have been swept, above it not.
func TestOpenSwept(t *testing.T) {
	a := func(create, mod, version int64) api.KV { return kv("a", "", create, mod, version) }
	later := []row{at(0, a(2, 3, 2)), ended(4, 0, "a"), at(0, a(5, 5, 1))}
	for what, x := range map[string]struct {
		want api.Errno
		stands
	}{
		"a put within":                    {api.OK, stands{rev: 5, floor: 3, rows: later}},
		"a put within above the floor":    {api.ErrForm, stands{rev: 5, floor: 2, rows: later}},
		"a tombstone":                     {api.OK, stands{rev: 5, floor: 4, rows: later[1:]}},
		"a tombstone above the floor":     {api.ErrForm, stands{rev: 5, floor: 3, rows: later[1:]}},
		"a tombstone alone":               {api.OK, stands{rev: 5, floor: 5, rows: later[1:2]}},
		"nothing but a new one":           {api.OK, stands{rev: 5, rows: later[2:]}},
		"two tombstones":                  {api.ErrForm, stands{rev: 5, floor: 5, rows: []row{ended(3, 0, "a"), ended(4, 0, "a")}}},
		"a tombstone, then within":        {api.ErrForm, stands{rev: 5, floor: 5, rows: []row{ended(3, 0, "a"), at(0, a(2, 4, 2))}}},
		"a tombstone, then a new one":     {api.OK, stands{rev: 5, floor: 5, rows: []row{ended(3, 0, "a"), at(0, a(4, 4, 1)), at(0, a(4, 5, 2))}}},
		"a tombstone and a put at once":   {api.ErrForm, stands{rev: 5, floor: 5, rows: []row{at(0, kv("b", "", 3, 3, 1)), ended(3, 0, "a")}}},
		"a write's rest":                  {api.OK, stands{rev: 5, floor: 3, rows: []row{at(2, a(3, 3, 3)), at(7, kv("b", "", 3, 3, 1))}}},
		"a write's rest above the floor":  {api.ErrForm, stands{rev: 5, floor: 2, rows: []row{at(2, a(3, 3, 3)), at(7, kv("b", "", 3, 3, 1))}}},
		"a whole write behind a rest":     {api.OK, stands{rev: 5, floor: 3, rows: []row{at(2, a(3, 3, 3)), at(0, kv("b", "", 4, 4, 1)), at(1, a(3, 4, 4))}}},
		"half a write behind a rest":      {api.ErrForm, stands{rev: 5, floor: 3, rows: []row{at(2, a(3, 3, 3)), at(1, kv("b", "", 4, 4, 1))}}},
		"versions that don't follow":      {api.ErrForm, stands{rev: 5, floor: 5, rows: []row{at(0, a(1, 3, 3)), at(0, a(1, 4, 5))}}},
		"a Create that doesn't follow":    {api.ErrForm, stands{rev: 5, floor: 5, rows: []row{at(0, a(1, 3, 3)), at(0, a(2, 4, 4))}}},
		"a version that follows":          {api.OK, stands{rev: 5, floor: 3, rows: []row{at(0, a(1, 3, 3)), at(0, a(1, 4, 4))}}},
		"the greatest versions":           {api.OK, stands{rev: 5, floor: 3, rows: []row{at(0, a(1, 3, maxRev-1)), at(0, a(1, 4, maxRev))}}},
		"the greatest revision":           {api.OK, stands{rev: maxRev, floor: maxRev, rows: []row{at(maxRev, a(1, maxRev, maxRev))}}},
		"its tombstone":                   {api.OK, stands{rev: maxRev, floor: maxRev, rows: []row{ended(maxRev, maxRev, "a")}}},
		"above the floor, as the first":   {api.OK, stands{rev: 5, floor: 3, rows: []row{at(0, a(4, 4, 1))}}},
		"above it, a tombstone behind":    {api.OK, stands{rev: 5, floor: 3, rows: []row{at(0, a(4, 4, 1)), ended(5, 0, "a")}}},
		"a tombstone's put was ahead":     {api.OK, stands{rev: 5, floor: 4, rows: []row{at(0, a(4, 4, 7)), ended(5, 0, "a")}}},
		"a tombstone at the floor's next": {api.ErrForm, stands{rev: 5, floor: 4, rows: []row{ended(4, 0, "a"), ended(5, 0, "a")}}},
	} {
		mustOpenAs(t, what, x.base(t), x.want)
	}
}

// TestOpenTells: P15.1, a store that was made by hand tells what stands there.
func TestOpenTells(t *testing.T) {
	rows := []row{ended(2, 3, "a"), at(5, kv("b", "old", 1, 2, 4)), at(0, kv("b", "new", 1, 4, 5)), at(1, kv("a", "x", 4, 4, 1)), ended(6, 0, "b")}
	s := mustOpenAs(t, "by hand", stands{rev: 7, floor: 3, done: 1, rows: rows}.base(t), api.OK)
	for at, want := range map[int64][]api.KV{
		3: {kv("b", "old", 1, 2, 4)},
		4: {kv("a", "x", 4, 4, 1), kv("b", "new", 1, 4, 5)},
		5: {kv("a", "x", 4, 4, 1), kv("b", "new", 1, 4, 5)},
		6: {kv("a", "x", 4, 4, 1)},
		0: {kv("a", "x", 4, 4, 1)},
	} {
		if got, e := s.Range(nil, []byte(all), at); e != api.OK || !sameKVs(got, want) {
			t.Fatalf("Range at %d: %v, %d; want %v", at, got, e, want)
		}
	}
	want := []api.Event{
		{Kind: 1, KV: kv("b", "new", 1, 4, 5), Had: true, Prev: kv("b", "old", 1, 2, 4)},
		{Kind: 1, KV: kv("a", "x", 4, 4, 1)},
		{Kind: 2, KV: api.KV{Key: []byte("b"), Mod: 6}, Had: true, Prev: kv("b", "new", 1, 4, 5)},
	}
	if got, e := s.Since(nil, []byte(all), 4); e != api.OK || !sameEvents(got, want) {
		t.Fatalf("Since: %v, %d; want %v", got, e, want)
	}
	if n, none, e := s.Sweep(9); n != 1 || !none || e != api.OK {
		t.Fatalf("Sweep: %d, %v, %d; want 1, true: the tombstone", n, none, e)
	}
}

// TestOpenUnread: P15.1, the database's error, ahead of ErrForm.
func TestOpenUnread(t *testing.T) {
	for _, right := range []bool{true, false} {
		d, b := baseOf(t, 100)
		x := stands{rev: 40}
		for i := range int64(40) {
			x.rows = append(x.rows, at(0, kv("a", text(1, 100), 1, i+1, i+1)))
		}
		if !right {
			x.rev, x.rows[0].value = 39, nil
		}
		x.lay(t, b)
		mustBe(t, "Commit", b.Commit(), api.OK)
		p, e := pager.Open(d)
		mustBe(t, "pager.Open", e, api.OK)
		told := 0
		for id := 2; id < d.Size(); id++ {
			good, _ := d.Read(id)
			got, e := p.Read(id)
			if e != api.OK || got.Kind == page.Spare {
				continue
			}
			mustBe(t, "Write", d.Write(id, make([]byte, 256)), api.OK)
			if s, e := mvcc.Open(b); e == api.ErrSum && s == nil {
				told++
			} else if want := b.Check(); want != api.OK {
				t.Fatalf("the page %d broken: Open: %v, %d; want %d", id, s, e, want)
			}
			mustBe(t, "Write", d.Write(id, good), api.OK)
		}
		if told < 20 {
			t.Fatalf("%d pages broken", told)
		}
		d.Fuse(0)
		mustOpenAs(t, "a dead disk", b, api.ErrDead)
		d.Crash()
		mustOpenAs(t, "alive again", b, map[bool]api.Errno{true: api.OK, false: api.ErrForm}[right])
	}
}

// TestOpenDead: P15.1, a database whose commit failed.
func TestOpenDead(t *testing.T) {
	d, b := baseOf(t, 60)
	mustBe(t, "Put", b.Put("meta", []byte("rev"), eight(1)), api.OK)
	d.Fuse(1)
	mustBe(t, "Commit", b.Commit(), api.ErrDead)
	d.Crash()
	mustOpenAs(t, "a dead database", b, api.ErrDead)
	if b, e := db.Open(disk.New(60)); b != nil || e == api.OK {
		t.Fatal("a database where there is none")
	} else {
		mustOpenAs(t, "no database", b, api.ErrArg)
	}
}
