package ring

import (
	"fmt"
	"math/rand"
	"slices"
	"testing"

	"troupe/api"
	"troupe/cells"
	"troupe/trial"
)

const (
	put     = trial.RingPut
	take    = trial.RingTake
	drain   = trial.RingDrain
	look    = trial.RingLook
	closing = trial.RingClose
)

func begin(r *Ring, kind int, v uint64) *Op {
	switch kind {
	case put:
		return r.Put(v)
	case take:
		return r.Take()
	case drain:
		return r.Drain()
	case look:
		return r.Look()
	}
	return r.Close()
}

// P3.2 to P3.5: operations of all kinds, mixed step by step, beside somebody who now and then changes a cell, or not; all that is told and all cells are held against the plain ones.
func TestStepsAgainstPlainOnes(t *testing.T) {
	for seed := range int64(400) {
		draw := rand.New(rand.NewSource(seed))
		slots := 1 + draw.Intn(4)
		m, r := fresh(t, slots)
		twins := func() trial.Twins {
			kind, v := draw.Intn(trial.RingKinds), draw.Uint64()
			if kind == closing && draw.Intn(3) > 0 {
				kind = put
			}
			o, p := begin(r, kind, v), &trial.RingOp{Kind: kind, Slots: uint64(slots), V: v}
			same := func() {
				wantTold(t, fmt.Sprint("an operation of kind ", kind), o, p.Outcome, p.Value, p.Ticket)
			}
			return trial.Twins{Op: o, Plain: p.Step, Same: same}
		}
		trial.Mixed(t, m, draw.Intn, twins, 3*draw.Intn(3), func(held []uint64) uint64 { return trial.Odd(draw.Intn, held) })
		if t.Failed() {
			t.Fatalf("seed %d, %d slots", seed, slots)
		}
	}
}

// stage is a ring with threads, each of which does its operations one behind the other; v of a put is 100 times its thread and its place, from 1 on.
type stage struct {
	t       *testing.T
	m       *cells.Mem
	r       *Ring
	slots   int
	threads [][]int
	at      []int // which operation of a thread is its next one, or under way
	steps   []int // how many steps that one has done
	under   []*Op
	begun   int  // how many Puts and Closes were begun
	closed  bool // a Close is over
	late    []bool
	came    map[uint64]uint64 // by tickets, what went in
	taken   []uint64
	freed   int // how many slots wait again
	ended   bool
}

func newStage(t *testing.T, slots int, threads [][]int) *stage {
	m := cells.New(Size(slots))
	r, e := Make(m, 0, slots)
	if e != api.OK {
		t.Fatal(e)
	}
	n := len(threads)
	s := &stage{t: t, m: m, r: r, slots: slots, threads: threads, at: make([]int, n), steps: make([]int, n), under: make([]*Op, n), late: make([]bool, n), came: map[uint64]uint64{}}
	for _, ops := range threads {
		for _, kind := range ops {
			if kind == put || kind == closing {
				s.begun++ // of all that ever begin, as the promise counts
			}
		}
	}
	return s
}

// play picks threads till all of them are through.
func (s *stage) play(pick func(n int) int) {
	goes := func(k int) bool { return s.at[k] < len(s.threads[k]) }
	order := trial.Turns(s.t, len(s.threads), goes, s.step, pick)
	s.empty()
	if s.t.Failed() { // it tells the first order that is wrong, and not those behind it too
		s.t.Fatalf("%d slots, threads %v, order %v", s.slots, s.threads, order)
	}
}

func (s *stage) step(k int) {
	kind, v := s.threads[k][s.at[k]], uint64(100*k+s.at[k]+1)
	if s.under[k] == nil {
		s.under[k], s.steps[k], s.late[k] = begin(s.r, kind, v), 0, s.closed
	}
	o := s.under[k]
	over := o.Step()
	s.steps[k]++
	if kind == take && s.steps[k] == 4 || kind == drain && s.steps[k] == 5 {
		s.freed++
	}
	if in := int(s.m.Peek(0)&^edge) - s.freed; in > s.slots {
		s.t.Errorf("%d are in the ring", in)
	}
	if kind == put && s.steps[k] > 3*s.begun+2 {
		s.t.Errorf("a Put of %d steps, beside %d Puts and Closes in all", s.steps[k], s.begun)
	}
	if over {
		s.over(k, kind, v, o)
	}
}

func (s *stage) over(k, kind int, v uint64, o *Op) {
	s.at[k]++
	s.under[k] = nil
	switch {
	case kind == put && o.Outcome() == api.Done:
		if _, twice := s.came[o.Ticket()]; twice || s.late[k] {
			s.t.Errorf("ticket %d: drawn twice %t, begun behind a Close %t", o.Ticket(), twice, s.late[k])
		}
		s.came[o.Ticket()] = v
	case kind == closing:
		s.closed = true
	case kind == take || kind == drain:
		s.took(o)
	}
}

func (s *stage) took(o *Op) {
	if s.ended && o.Outcome() != api.Ended && o.Outcome() != api.None {
		s.t.Errorf("%d of a ring that has ended", o.Outcome())
	}
	switch o.Outcome() {
	case api.Done:
		s.taken = append(s.taken, o.Value())
	case api.Ended:
		s.ended = true
	}
}

// empty takes what is left, and holds what was taken against what went in; nobody else steps any more.
func (s *stage) empty() {
	last := api.None
	if s.closed {
		last = api.Ended
	}
	for range s.slots + 1 {
		o := s.r.Drain()
		trial.Run(s.t, o)
		if o.Outcome() != api.Done {
			if o.Outcome() != last {
				s.t.Errorf("the last Drain: %d", o.Outcome())
			}
			break
		}
		s.taken = append(s.taken, o.Value())
	}
	if len(s.taken) != len(s.came) {
		s.t.Errorf("taken: %v; put: %v", s.taken, s.came)
	}
	behind := map[uint64]uint64{}
	for ticket, v := range s.taken {
		if in, ok := s.came[uint64(ticket)]; !ok || in != v {
			s.t.Errorf("taken: %v; put: %v", s.taken, s.came)
		}
		if v <= behind[v/100] {
			s.t.Errorf("taken: %v, out of their putter's order", s.taken)
		}
		behind[v/100] = v
	}
}

// P3.6: all orders of a few operations.
func TestEveryOrder(t *testing.T) {
	for _, c := range []struct {
		slots, atLeast int
		threads        [][]int
	}{
		{1, 50, [][]int{{closing}, {closing}, {put}}},
		{1, 2000, [][]int{{put, put}, {take, take}}},
		{1, 2000, [][]int{{put, put}, {look, take, look, take}}},
		{1, 2000, [][]int{{put, closing, put}, {drain, drain, drain}}},
		{1, 2000, [][]int{{put}, {put}, {closing}}},
		{1, 10000, [][]int{{put}, {put}, {take}}},
		{2, 2000, [][]int{{put, put}, {put}}},
		{2, 50, [][]int{{put, put}, {closing}}},
		{2, 10000, [][]int{{put}, {put}, {take}}},
		{2, 5000, [][]int{{put, put, put}, {drain}}},
		{2, 10000, [][]int{{put}, {take, drain}, {closing}}},
	} {
		t.Run(fmt.Sprint(c.slots, c.threads), func(t *testing.T) {
			plays := trial.EveryOrder(func(pick func(int) int) { newStage(t, c.slots, c.threads).play(pick) })
			if plays < c.atLeast {
				t.Errorf("%d orders", plays)
			}
		})
	}
}

// P3.6: some orders of many operations.
func TestManyOrders(t *testing.T) {
	for seed := range int64(3000) {
		draw := rand.New(rand.NewSource(seed))
		threads := make([][]int, 1+draw.Intn(6))
		for k := range threads {
			threads[k] = slices.Repeat([]int{put}, draw.Intn(7))
			if draw.Intn(6) == 0 {
				threads[k] = slices.Insert(threads[k], draw.Intn(len(threads[k])+1), closing)
			}
		}
		var taker []int
		for range draw.Intn(20) {
			taker = append(taker, []int{take, take, drain, drain, look}[draw.Intn(5)])
		}
		threads = append(threads, taker)
		slots := []int{1, 2, 3, 5, 64}[draw.Intn(5)]
		newStage(t, slots, threads).play(draw.Intn)
	}
}
