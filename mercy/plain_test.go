package mercy_test

import (
	"math"
	"math/rand"
	"testing"

	"troupe/mercy"
)

// The chapter's edges, numbers about them, and numbers far beyond.
var (
	limits  = []int{math.MinInt, math.MinInt + 1, math.MinInt32, -100, -2, -1, 0, 1, 2, 3, 50, 98, 99, 100, 101, 102, 255, 256, 500, 1 << 32, 1<<32 + 1, math.MaxInt}
	withins = []int{math.MinInt, math.MinInt32, -4095, -2, -1, 0, 1, 2, 3, 10, 2048, 4093, 4094, 4095, 4096, 4097, 8190, 65536, 1 << 32, 1<<32 + 2, math.MaxInt}
	nows    = []int{math.MinInt, math.MinInt + 1, math.MinInt32, -4096, -2, -1, 0, 1, 2, 4095, 1<<32 + 1, 1<<40 - 4096, 1<<40 - 2, 1<<40 - 1, 1 << 40, 1<<40 + 1, 1 << 41, math.MaxInt - 1, math.MaxInt}
	numbers = []int{math.MinInt, -1, 0, 1, 2, 16, 17, 64, 1 << 32, 1<<32 + 1, math.MaxInt}
)

// nearest is n, or the edge beyond which it lies.
func nearest(n, low, high int) int {
	if n < low {
		return low
	}
	if n > high {
		return high
	}
	return n
}

// grant is one restart.
type grant struct{ child, tick int }

// plain is a budget as the chapter tells it: all restarts that were given and not forgotten.
type plain struct {
	limit, within int
	grants        []grant
}

func (p *plain) used(child, now int) int {
	n := 0
	for _, g := range p.grants {
		if g.child == child && g.tick > nearest(now, 0, 1<<40)-p.within {
			n++
		}
	}
	return n
}

func (p *plain) ask(child, now int) bool {
	if p.used(child, now) >= p.limit {
		return false
	}
	p.grants = append(p.grants, grant{child, nearest(now, 0, 1<<40)})
	return true
}

// left asks a copy till it gives none.
func (p *plain) left(child, now int) int {
	c := plain{p.limit, p.within, append([]grant(nil), p.grants...)}
	n := 0
	for c.ask(child, now) {
		n++
	}
	return n
}

func (p *plain) forget(child int) {
	var others []grant
	for _, g := range p.grants {
		if g.child != child {
			others = append(others, g)
		}
	}
	p.grants = others
}

// pair is a budget and the plain one to which the same is done.
type pair struct {
	t    *testing.T
	got  *mercy.Budget
	want plain
}

func begin(t *testing.T, limit, within int) *pair {
	return &pair{t, mercy.New(limit, within), plain{limit: nearest(limit, 0, 100), within: nearest(within, 1, 4095)}}
}

func (p *pair) ask(child, now int) {
	p.t.Helper()
	want := p.want.ask(child, now)
	if got := p.got.Ask(child, now); got != want {
		p.t.Errorf("limit %d within %d: Ask(%d, %d) = %v, want %v", p.want.limit, p.want.within, child, now, got, want)
	}
}

func (p *pair) left(child, now int) {
	p.t.Helper()
	want := p.want.left(child, now)
	if got := p.got.Left(child, now); got != want {
		p.t.Errorf("limit %d within %d: Left(%d, %d) = %d, want %d", p.want.limit, p.want.within, child, now, got, want)
	}
}

func (p *pair) forget(child int) {
	p.want.forget(child)
	p.got.Forget(child)
}

// drawnCall does one call at now, of one of a few children, an Ask mostly.
func (p *pair) drawnCall(draw *rand.Rand, now int) {
	p.t.Helper()
	child := draw.Intn(4) - 1
	switch draw.Intn(12) {
	case 0:
		p.forget(child)
	case 1, 2, 3:
		p.left(child, now)
	default:
		p.ask(child, now)
	}
}
