package tree_test

import (
	"math"
	"math/rand"
	"slices"
	"testing"

	"troupe/api"
	"troupe/tree"
)

// numbers are about the edge of what can be a member, and far beyond; some differ in their high bits alone.
var numbers = []int{math.MinInt, math.MinInt + 1, math.MinInt32, -1 << 32, -2, -1, 0, 1, 2, 3, 255, 256, 257, math.MaxInt32, 1 << 31, 1 << 32, 1<<32 + 1, 1<<32 + 2, math.MaxInt - 1, math.MaxInt}

// child is a member and whose child it is, 0 of the root.
type child struct{ id, parent int }

// plain is a tree as the chapter tells it: its members in the order in which they came.
type plain struct{ came []child }

func (p *plain) at(id int) int {
	return slices.IndexFunc(p.came, func(c child) bool { return c.id == id })
}

func (p *plain) has(id int) bool { return p.at(id) >= 0 }

func (p *plain) kids(id int) (kids []int) {
	for _, c := range p.came {
		if c.parent == id {
			kids = append(kids, c.id)
		}
	}
	return kids
}

func (p *plain) add(parent, id int) api.Errno {
	if id < 1 {
		return api.ErrArg
	}
	if p.has(id) {
		return api.ErrThere
	}
	if parent == 0 && len(p.kids(0)) > 0 {
		return api.ErrFull
	}
	if parent != 0 && !p.has(parent) {
		return api.ErrNone
	}
	p.came = append(p.came, child{id, parent})
	return api.OK
}

func (p *plain) cut(id int) api.Errno {
	if !p.has(id) {
		return api.ErrNone
	}
	if len(p.kids(id)) > 0 {
		return api.ErrBusy
	}
	p.came = slices.Delete(p.came, p.at(id), p.at(id)+1)
	return api.OK
}

func (p *plain) parent(id int) (int, bool) {
	if !p.has(id) {
		return 0, false
	}
	return p.came[p.at(id)].parent, true
}

func (p *plain) path(id int) []int {
	parent, ok := p.parent(id)
	if !ok {
		return nil
	}
	return append(p.path(parent), id)
}

func (p *plain) below(id int) (below []int) {
	if !p.has(id) {
		return nil
	}
	for _, kid := range p.kids(id) {
		below = append(below, p.below(kid)...)
	}
	return append(below, id)
}

// pair is a tree and the plain one to which the same is done.
type pair struct {
	t    *testing.T
	got  *tree.Tree
	want plain
}

func begin(t *testing.T, came ...child) *pair {
	t.Helper()
	p := &pair{t: t, got: tree.New()}
	for _, c := range came {
		p.add(c.parent, c.id)
	}
	return p
}

func (p *pair) add(parent, id int) {
	p.t.Helper()
	before := slices.Clone(p.want.came)
	want := p.want.add(parent, id)
	if e := p.got.Add(parent, id); e != want {
		p.t.Errorf("of %v: Add(%d, %d) = %d, want %d", before, parent, id, e, want)
	}
}

func (p *pair) cut(id int) {
	p.t.Helper()
	before := slices.Clone(p.want.came)
	want := p.want.cut(id)
	if e := p.got.Cut(id); e != want {
		p.t.Errorf("of %v: Cut(%d) = %d, want %d", before, id, e, want)
	}
}

// look holds all that a tree tells of these, and of its members, against the plain one.
func (p *pair) look(others ...int) {
	p.t.Helper()
	if n := p.got.Len(); n != len(p.want.came) {
		p.t.Errorf("of %v: Len = %d", p.want.came, n)
	}
	for _, c := range p.want.came {
		p.lookAt(c.id)
	}
	for _, id := range others {
		p.lookAt(id)
	}
}

func (p *pair) lookAt(id int) {
	p.t.Helper()
	if got := p.got.Has(id); got != p.want.has(id) {
		p.t.Errorf("of %v: Has(%d) = %v", p.want.came, id, got)
	}
	parent, ok := p.got.Parent(id)
	if wantParent, wantOK := p.want.parent(id); parent != wantParent || ok != wantOK {
		p.t.Errorf("of %v: Parent(%d) = %d, %v, want %d, %v", p.want.came, id, parent, ok, wantParent, wantOK)
	}
	var kids []int
	if p.want.has(id) {
		kids = p.want.kids(id)
	}
	p.wantList("Kids", id, p.got.Kids(id), kids)
	p.wantList("Path", id, p.got.Path(id), p.want.path(id))
	p.wantList("Below", id, p.got.Below(id), p.want.below(id))
}

func (p *pair) wantList(call string, id int, got, want []int) {
	p.t.Helper()
	if !slices.Equal(got, want) {
		p.t.Errorf("of %v: %s(%d) = %v, want %v", p.want.came, call, id, got, want)
	}
}

// drawn makes a tree of n members, from 1 to n, each new one the child of one of the last so many, or of any.
func drawn(t *testing.T, draw *rand.Rand, n, last int) *pair {
	t.Helper()
	ids := draw.Perm(n)
	p := begin(t)
	for i := range ids {
		parent := 0
		if i > 0 {
			parent = ids[max(i-1-draw.Intn(last), 0)] + 1
		}
		p.add(parent, ids[i]+1)
	}
	return p
}

// shapes calls do with every tree that can be made of the members 1 to n, who came in the order of their numbers.
func shapes(n int, do func(came []child)) {
	var grow func(came []child)
	grow = func(came []child) {
		if len(came) == n {
			do(came)
			return
		}
		for parent := 1; parent <= len(came); parent++ {
			grow(append(slices.Clone(came), child{len(came) + 1, parent}))
		}
	}
	grow([]child{{1, 0}})
}
