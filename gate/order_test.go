package gate_test

import (
	"fmt"
	"math/rand"
	"slices"
	"testing"

	"troupe/api"
	"troupe/cells"
	"troupe/gate"
	"troupe/trial"
)

const (
	put = iota
	take
	kinds
)

func begin(g *gate.Gate, kind int, v uint64) *gate.Op {
	if kind == put {
		return g.Put(v)
	}
	return g.Take()
}

// plain is an operation as the chapter's words have it: which access is its next one, by the chapter's numbers.
type plain struct {
	kind, access int
	c, t, h, v   uint64
	outcome      int
	value        uint64
}

func (p *plain) step(mem []uint64) {
	if p.outcome != api.Pending {
		return
	}
	p.access++
	if p.kind == put {
		p.put(mem, 2+2*(p.t%p.c), p.t/p.c)
	} else {
		p.take(mem, 2+2*(p.h%p.c), p.h/p.c)
	}
}

func (p *plain) put(mem []uint64, slot, r uint64) {
	switch p.access {
	case 1:
		p.t = mem[0]
	case 2:
		if s := mem[slot]; s > 2*r {
			p.access = 0
		} else if s < 2*r {
			p.outcome = api.Full
		}
	case 3:
		if mem[0] == p.t {
			mem[0] = p.t + 1
		} else {
			p.access = 0
		}
	case 4:
		mem[slot+1] = p.v
	case 5:
		mem[slot] = 2*r + 1
		p.outcome = api.Done
	}
}

func (p *plain) take(mem []uint64, slot, r uint64) {
	switch p.access {
	case 1:
		p.h = mem[1]
	case 2:
		if s := mem[slot]; s > 2*r+1 {
			p.access = 0
		} else if s < 2*r+1 {
			p.outcome = api.None
		}
	case 3:
		if mem[1] == p.h {
			mem[1] = p.h + 1
		} else {
			p.access = 0
		}
	case 4:
		p.v = mem[slot+1]
	case 5:
		mem[slot] = 2*r + 2
		p.outcome, p.value = api.Done, p.v
	}
}

// P5.2 to P5.4: operations of both kinds, mixed step by step, beside somebody who now and then changes a cell, or not; all that is told and all cells are held against the plain ones.
func TestStepsAgainstPlainOnes(t *testing.T) {
	met := map[[2]int]int{}
	for seed := range int64(400) {
		draw := rand.New(rand.NewSource(seed))
		slots := 1 + draw.Intn(4)
		m, g := fresh(t, slots)
		twins := func() trial.Twins {
			kind, v := draw.Intn(kinds), draw.Uint64()
			o, p := begin(g, kind, v), &plain{kind: kind, c: uint64(slots), v: v}
			same := func() {
				met[[2]int{kind, p.outcome}]++
				wantTold(t, fmt.Sprint("an operation of kind ", kind), o, p.outcome, p.value)
			}
			return trial.Twins{Op: o, Plain: p.step, Same: same}
		}
		trial.Mixed(t, m, draw.Intn, twins, 4*draw.Intn(3), func(held []uint64) uint64 { return trial.Odd(draw.Intn, held) })
		if t.Failed() {
			t.Fatalf("seed %d, %d slots", seed, slots)
		}
	}
	trial.Met(t, met, every)
}

// every kind of operation with each of its outcomes.
var every = [][2]int{{put, api.Done}, {put, api.Full}, {take, api.Done}, {take, api.None}}

// thread does its operations one behind the other.
type thread struct {
	kinds []int
	at    int // which of them is its next one, or under way
	under *gate.Op
	steps int      // of the one under way
	told  []uint64 // what its Takes told
}

// stage is a gate with threads; what a thread puts are 1000 times its number, counted from 1, and the place of the Put among its operations.
type stage struct {
	t       *testing.T
	m       *cells.Mem
	g       *gate.Gate
	slots   int
	threads []*thread
	begun   int // how many operations are ever begun, but those of empty
	put     []uint64
	taken   []uint64
	met     map[[2]int]int // how often a kind of operation has come to an outcome
}

func newStage(t *testing.T, slots, ahead int, kinds [][]int) *stage {
	m, g := fresh(t, slots)
	s := &stage{t: t, m: m, g: g, slots: slots, met: map[[2]int]int{}}
	for v := range uint64(ahead) {
		trial.Run(t, g.Put(v+1))
		s.put = append(s.put, v+1)
	}
	for _, k := range kinds {
		s.threads = append(s.threads, &thread{kinds: k})
		s.begun += len(k)
	}
	return s
}

// play picks threads till all of them are through.
func (s *stage) play(pick func(n int) int) {
	goes := func(k int) bool { return s.threads[k].at < len(s.threads[k].kinds) }
	order := trial.Turns(s.t, len(s.threads), goes, s.step, pick)
	s.empty()
	if s.t.Failed() { // it tells the first order that is wrong, and not those behind it too
		s.t.Fatalf("%d slots, order %v; put %v, taken %v", s.slots, order, s.put, s.taken)
	}
}

func (s *stage) step(k int) {
	th := s.threads[k]
	kind, v := th.kinds[th.at], uint64(1000*(k+1)+th.at)
	if th.under == nil {
		th.under, th.steps = begin(s.g, kind, v), 0
	}
	over := th.under.Step()
	if th.steps++; th.steps > 3*s.begun+2 {
		s.t.Errorf("an operation of kind %d: %d steps, of %d operations in all", kind, th.steps, s.begun)
	}
	if over {
		s.over(kind, v, th)
		th.under = nil
		th.at++
	}
	if in := int(s.m.Peek(0)) - len(s.taken); in > s.slots { // one that is taken is in it till its slot waits again
		s.t.Errorf("%d are in the gate", in)
	}
}

func (s *stage) over(kind int, v uint64, th *thread) {
	o := th.under
	s.met[[2]int{kind, o.Outcome()}]++
	switch {
	case o.Outcome() == api.Done && kind == put:
		s.put = append(s.put, v)
	case o.Outcome() == api.Done:
		s.taken = append(s.taken, o.Value())
		th.told = append(th.told, o.Value())
	}
}

// empty takes what is left, and holds what was taken against what was put; nobody else steps any more.
func (s *stage) empty() {
	last := &thread{}
	for range s.slots + 1 {
		last.under = s.g.Take()
		trial.Run(s.t, last.under)
		s.over(take, 0, last)
	}
	if last.under.Outcome() != api.None {
		s.t.Errorf("the last Take: %d", last.under.Outcome())
	}
	for _, th := range append(s.threads, last) {
		s.inOrder(th.told)
	}
	slices.Sort(s.put)
	if slices.Sort(s.taken); !slices.Equal(s.taken, s.put) {
		s.t.Errorf("what was put wasn't taken, each once")
	}
}

// inOrder sees to it that what one has put is told in the order of its Puts.
func (s *stage) inOrder(told []uint64) {
	behind := map[uint64]uint64{}
	for _, v := range told {
		if v <= behind[v/1000] {
			s.t.Errorf("told %v, out of their putter's order", told)
		}
		behind[v/1000] = v
	}
}

// P5.5: all orders of a few operations.
func TestEveryOrder(t *testing.T) {
	for _, c := range []struct {
		slots, ahead, atLeast int
		threads               [][]int
	}{
		{1, 0, 1000, [][]int{{put, put}, {take, take}}},
		{1, 0, 2000, [][]int{{put, take}, {put, take}}},
		{1, 0, 10000, [][]int{{put}, {put}, {take}}},
		{1, 0, 4000, [][]int{{put}, {take}, {take}}},
		{1, 1, 10000, [][]int{{take}, {take}, {put}}},
		{1, 1, 2000, [][]int{{take, put}, {put, take}}},
		{1, 1, 400, [][]int{{take}, {put, put, put}}},
		{2, 0, 2000, [][]int{{put, put}, {put}}},
		{2, 0, 10000, [][]int{{put}, {put}, {take}}},
		{2, 1, 2000, [][]int{{put, take}, {take}}},
		{2, 2, 2000, [][]int{{take, take}, {take}}},
		{2, 2, 2000, [][]int{{take, take}, {put, put}}},
		{3, 2, 10000, [][]int{{take, take}, {take, put}}},
	} {
		t.Run(fmt.Sprint(c.slots, c.ahead, c.threads), func(t *testing.T) {
			plays := trial.EveryOrder(func(pick func(int) int) { newStage(t, c.slots, c.ahead, c.threads).play(pick) })
			if plays < c.atLeast {
				t.Errorf("%d orders", plays)
			}
		})
	}
}

// P5.5: some orders of many operations.
func TestManyOrders(t *testing.T) {
	met := map[[2]int]int{}
	for seed := range int64(4000) {
		draw := rand.New(rand.NewSource(seed))
		slots, puts := []int{1, 2, 3, 5, 64}[draw.Intn(5)], 1+draw.Intn(4)
		threads := make([][]int, 1+draw.Intn(6))
		for k := range threads {
			for range draw.Intn(12) {
				threads[k] = append(threads[k], []int{take, put, take, put, put}[draw.Intn(1+puts)])
			}
		}
		s := newStage(t, slots, draw.Intn(slots+1), threads)
		s.play(draw.Intn)
		for k, n := range s.met {
			met[k] += n
		}
	}
	trial.Met(t, met, every)
}
