package pager_test

import (
	"testing"

	"terrier/api"
	"terrier/page"
	"terrier/pager"
)

// older is a pager with three pages of an older commit, 3 to 5; the chain is 6, and 2 and 7 to 9 are spare.
func older(t *testing.T) *pager.Pager {
	t.Helper()
	_, p := opened(t, 10)
	for i, x := range []page.Page{leaf("a"), leaf("b"), leaf("c")} {
		mustAdd(t, p, x, 3+i)
	}
	p.SetRoot(3)
	mustCommit(t, p)
	mustTell(t, p, 2, 3, 2, 7, 8, 9)
	return p
}

// TestBack: P7.2, what was added, dropped and set behind a Save is undone.
func TestBack(t *testing.T) {
	p := older(t)
	s := p.Save()
	mustAdd(t, p, leaf("d"), 2)
	mustDrop(t, p, 4)
	p.SetRoot(2)
	p.Back(s)
	mustTell(t, p, 2, 3, 2, 7, 8, 9)
	mustRead(t, p, 2, written(page.Page{Kind: page.Spare, IDs: upTo(3, 10)}, 1)) // the first chain, which nothing has written over
	mustDrop(t, p, 4)
	mustNotDrop(t, p, api.ErrExist, 2, 4)
}

// TestBackOfAdded: P7.2, a page that was added ahead of a Save and dropped behind it is there again, with what it had.
func TestBackOfAdded(t *testing.T) {
	p := older(t)
	mustAdd(t, p, leaf("d"), 2)
	mustDrop(t, p, 3)
	p.SetRoot(2)
	s := p.Save()
	mustDrop(t, p, 2)
	mustAdd(t, p, leaf("e"), 2)
	mustDrop(t, p, 5)
	p.SetRoot(0)
	p.Back(s)
	mustTell(t, p, 2, 2, 7, 8, 9)
	mustRead(t, p, 2, written(leaf("d"), 3))
	mustNotDrop(t, p, api.ErrExist, 3)
	mustCommit(t, p) // the chain is 7
	mustTell(t, p, 3, 2, 3, 6, 8, 9)
	mustRead(t, p, 2, written(leaf("d"), 3))
	mustRead(t, p, 5, written(leaf("c"), 2))
}

// TestBackTwice: P7.2, to one Saved as often as one likes: what is done behind it isn't seen in it.
func TestBackTwice(t *testing.T) {
	p := older(t)
	mustAdd(t, p, leaf("d"), 2)
	s := p.Save()
	for range 4 {
		mustAdd(t, p, leaf("e"), 7)
		mustDrop(t, p, 2)
		mustAdd(t, p, leaf("f"), 2)
		mustDrop(t, p, 3, 5)
		p.SetRoot(7)
		p.Back(s)
		mustTell(t, p, 2, 3, 7, 8, 9)
		mustRead(t, p, 2, written(leaf("d"), 3))
		p.Back(s)
		mustTell(t, p, 2, 3, 7, 8, 9)
	}
	mustCommit(t, p)
	mustTell(t, p, 3, 3, 6, 8, 9)
}

// TestBackInto: P7.2, several Saves into each other, gone back to in any order: older ones, then newer ones, too.
func TestBackInto(t *testing.T) {
	p := older(t)
	zero := p.Save()
	mustAdd(t, p, leaf("d"), 2)
	p.SetRoot(2)
	one := p.Save()
	mustDrop(t, p, 3)
	mustAdd(t, p, leaf("e"), 7)
	two := p.Save()
	mustDrop(t, p, 2, 7, 4)
	p.SetRoot(0)
	three := p.Save()
	for _, order := range [][]int{{3, 2, 1, 0}, {0, 1, 2, 3}, {2, 0, 3, 1}, {1, 1, 0, 2}} {
		for _, n := range order {
			p.Back([]pager.Saved{zero, one, two, three}[n])
			mustTell(t, p, 2, []int{3, 2, 2, 0}[n], [][]int{{2, 7, 8, 9}, {7, 8, 9}, {8, 9}, {2, 7, 8, 9}}[n]...)
			held := [][]int{nil, nil, {3}, {3, 4}}[n]
			mustNotDrop(t, p, api.ErrExist, held...)
			if n == 1 || n == 2 {
				mustRead(t, p, 2, written(leaf("d"), 3))
			}
			if n == 2 {
				mustRead(t, p, 7, written(leaf("e"), 3))
			}
			mustAdd(t, p, leaf("more"), p.Spare()[0])
			p.SetRoot(9)
		}
	}
	p.Back(two)
	mustCommit(t, p) // the chain is 8
	mustTell(t, p, 3, 2, 3, 6, 9)
}

// TestSaveAsks: P7.2, a Save alone changes nothing, nor does a Back to it at once.
func TestSaveAsks(t *testing.T) {
	p := older(t)
	mustAdd(t, p, leaf("d"), 2)
	mustDrop(t, p, 3)
	p.SetRoot(2)
	for range 3 {
		p.Save()
		p.Back(p.Save())
		mustTell(t, p, 2, 2, 7, 8, 9)
		mustRead(t, p, 2, written(leaf("d"), 3))
		mustNotDrop(t, p, api.ErrExist, 3)
	}
}

// TestBackToRefused: P7.2, behind a commit that was refused one may go back, as none was done.
func TestBackToRefused(t *testing.T) {
	p := older(t)
	s := p.Save()
	mustAdd(t, p, leaf("d"), 2)
	p.SetRoot(1)
	mustBe(t, "Commit", p.Commit(), api.ErrForm)
	p.Back(s)
	mustTell(t, p, 2, 3, 2, 7, 8, 9)
}

// TestBackElsewhere: P7.4, what was saved elsewhere, or ahead of a commit, makes no page spare that a commit needs.
func TestBackElsewhere(t *testing.T) {
	p, q := older(t), older(t)
	mustAdd(t, q, leaf("d"), 2)
	s := p.Save()
	q.Back(pager.Saved{})
	q.Back(s)
	mustTell(t, q, 2, 3, 7, 8, 9)
	mustAdd(t, p, leaf("d"), 2)
	p.SetRoot(2)
	mustCommit(t, p)
	mustTell(t, p, 3, 2, 6, 8, 9)
	p.Back(s)
	mustTell(t, p, 3, 2, 6, 8, 9)
	mustRead(t, p, 2, written(leaf("d"), 3))
}
