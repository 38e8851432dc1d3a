package disk_test

import (
	"math/rand"
	"slices"
	"testing"

	"terrier/api"
	"terrier/disk"
)

// plain is a disk as the chapter's words say it: each page has what is on the disk and, if it was written, what is in the cache.
type plain struct {
	on, in [][]byte
	burns  bool
	fuse   int
	dead   bool
	done   int
}

// newPlain is one of so many pages.
func newPlain(pages int) *plain {
	p := &plain{}
	for range pages {
		p.on = append(p.on, full(0))
		p.in = append(p.in, nil)
	}
	return p
}

// did: one more write or sync is done.
func (p *plain) did() {
	p.done++
	if p.burns {
		p.fuse--
		p.dead = p.fuse == 0
	}
}

func (p *plain) write(page int, b []byte) api.Errno {
	if p.dead {
		return api.ErrDead
	}
	if page < 0 || page >= len(p.on) {
		return api.ErrRange
	}
	if len(b) != 256 {
		return api.ErrForm
	}
	p.in[page] = slices.Clone(b)
	p.did()
	return api.OK
}

func (p *plain) read(page int) ([]byte, api.Errno) {
	switch {
	case p.dead:
		return nil, api.ErrDead
	case page < 0 || page >= len(p.on):
		return nil, api.ErrRange
	case p.in[page] != nil:
		return p.in[page], api.OK
	}
	return p.on[page], api.OK
}

func (p *plain) sync() api.Errno {
	if p.dead {
		return api.ErrDead
	}
	for page := range p.in {
		if p.in[page] != nil {
			p.on[page], p.in[page] = p.in[page], nil
		}
	}
	p.did()
	return api.OK
}

func (p *plain) light(n int) {
	if p.dead {
		return
	}
	p.burns, p.fuse, p.dead = n >= 0, n, n == 0
}

func (p *plain) crash(keep []disk.Keep) {
	for page := range p.in {
		if p.in[page] == nil {
			continue
		}
		n := 0
		for _, k := range keep {
			if k.Page == page {
				n = min(max(k.Bytes, 0), 256)
			}
		}
		p.on[page] = append(slices.Clone(p.in[page][:n]), p.on[page][n:]...)
		p.in[page] = nil
	}
	p.burns, p.dead = false, false
}

func (p *plain) cached() []int {
	var out []int
	for page := range p.in {
		if p.in[page] != nil {
			out = append(out, page)
		}
	}
	return out
}

// keeps are up to four that a crash may be handed.
func keeps(r *rand.Rand) []disk.Keep {
	var out []disk.Keep
	for range r.Intn(5) {
		out = append(out, disk.Keep{Page: r.Intn(12) - 2, Bytes: r.Intn(300) - 20})
	}
	return out
}

// step does one thing to both, and asks that they answer alike.
func step(t *testing.T, r *rand.Rand, d *disk.Disk, p *plain) {
	t.Helper()
	page := r.Intn(8)
	switch r.Intn(12) {
	case 0:
		page = wrongPages(8)[r.Intn(9)]
		mustBe(t, "Write", d.Write(page, full(1)), p.write(page, full(1)))
	case 1:
		b := make([]byte, 254+r.Intn(5))
		mustBe(t, "Write", d.Write(page, b), p.write(page, b))
	case 2, 3:
		mustBe(t, "Sync", d.Sync(), p.sync())
	case 4:
		n := r.Intn(12) - 2
		d.Fuse(n)
		p.light(n)
	case 5:
		keep := keeps(r)
		d.Crash(keep...)
		p.crash(keep)
	default:
		b := make([]byte, 256)
		r.Read(b)
		mustBe(t, "Write", d.Write(page, b), p.write(page, b))
	}
}

// TestWalk: P3.1 to P3.3, long runs of anything, beside the chapter's words; from time to time a copy goes on in the disk's place.
func TestWalk(t *testing.T) {
	for seed := range 60 {
		r := rand.New(rand.NewSource(int64(seed)))
		d, p := made(t, 8), newPlain(8)
		for range 300 {
			step(t, r, d, p)
			if r.Intn(20) == 0 {
				d = d.Copy()
			}
			mustDone(t, d, p.done)
			mustCached(t, d, p.cached()...)
			for page := -1; page <= 8; page++ {
				got, e := d.Read(page)
				want, f := p.read(page)
				if e != f || !slices.Equal(got, want) {
					t.Fatalf("seed %d, Read(%d): % x, %d; want % x, %d", seed, page, got, e, want, f)
				}
			}
		}
	}
}
