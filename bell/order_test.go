package bell_test

import (
	"fmt"
	"math/rand"
	"testing"

	"troupe/api"
	"troupe/bell"
	"troupe/cells"
	"troupe/trial"
)

// What a thread does: operations of the bell, and ahead of them, or behind, single accesses of what is brought and looked for.
const (
	sleep = iota
	up
	poll
	ring
	kinds
	bring
	look
)

func begin(b *bell.Bell, kind, w int) *bell.Op {
	switch kind {
	case sleep:
		return b.Sleep(w)
	case up:
		return b.Up(w)
	case poll:
		return b.Poll(w)
	}
	return b.Ring()
}

// plain is an operation as the chapter's words have it; v and seen are a Ring's: where it is, and whether that one was seen asleep.
type plain struct {
	kind, w, workers, v int
	seen                bool
	outcome, who        int
}

func plainly(kind, w, workers int) *plain {
	p := &plain{kind: kind, w: w, workers: workers, who: nobody}
	if kind != ring && (w < 0 || w >= workers) {
		p.outcome = api.None
	}
	return p
}

func (p *plain) step(mem []uint64) {
	if p.outcome != api.Pending {
		return
	}
	p.outcome = api.Done
	switch p.kind {
	case sleep:
		mem[p.w] = 1
	case up:
		mem[p.w] = 0
	case poll:
		if mem[p.w] != 0 {
			p.outcome = api.None
		}
	case ring:
		p.outcome = p.ring(mem)
	}
}

func (p *plain) ring(mem []uint64) int {
	switch is := mem[p.v] == 1; {
	case is && p.seen:
		mem[p.v], p.who = 0, p.v
		return api.Rouse
	case is:
		p.seen = true
		return api.Pending
	}
	p.v, p.seen = p.v+1, false
	if p.v == p.workers {
		return api.None
	}
	return api.Pending
}

// P6.2 to P6.4: operations of all kinds, mixed step by step, beside somebody who now and then changes a cell, or not; all that is told and all cells are held against the plain ones.
func TestStepsAgainstPlainOnes(t *testing.T) {
	met := map[[2]int]int{}
	for seed := range int64(400) {
		draw := rand.New(rand.NewSource(seed))
		workers := 1 + draw.Intn(api.MaxWorkers)
		m, b := fresh(t, workers)
		twins := func() trial.Twins {
			kind, w := draw.Intn(kinds), draw.Intn(workers+2)-1
			o, p := begin(b, kind, w), plainly(kind, w, workers)
			same := func() {
				met[[2]int{kind, p.outcome}]++
				wantTold(t, fmt.Sprint("an operation of kind ", kind), o, p.outcome, p.who)
			}
			return trial.Twins{Op: o, Plain: p.step, Same: same}
		}
		trial.Mixed(t, m, draw.Intn, twins, 4*draw.Intn(3), func([]uint64) uint64 { return uint64(draw.Intn(4)) - 1 })
		if t.Failed() {
			t.Fatalf("seed %d, %d workers", seed, workers)
		}
	}
	trial.Met(t, met, [][2]int{{sleep, api.Done}, {sleep, api.None}, {up, api.Done}, {up, api.None}, {poll, api.Done}, {poll, api.None}, {ring, api.Rouse}, {ring, api.None}})
}

// act is one thing that a thread does; the thing is what it brings, looks for, or rings for.
type act struct{ kind, thing int }

const nothing = -1 // what is rung for by one who has brought nothing

// thread does its acts one behind the other; w is which worker it is, if it is one.
type thread struct {
	w       int
	acts    []act
	at      int // which of them is its next one, or under way
	under   *bell.Op
	steps   int    // of the one under way
	through []bool // who has slept since the Ring under way began
}

// worker lies down, and then looks for these things.
func worker(w int, things ...int) thread {
	th := thread{w: w, acts: []act{{kind: sleep}}}
	for _, k := range things {
		th.acts = append(th.acts, act{look, k})
	}
	return th
}

// bringer brings a thing, and then rings.
func bringer(thing int) thread {
	return thread{w: nobody, acts: []act{{bring, thing}, {ring, thing}}}
}

// doer does operations of the bell alone.
func doer(w int, kinds ...int) thread {
	th := thread{w: w}
	for _, k := range kinds {
		th.acts = append(th.acts, act{k, nothing})
	}
	return th
}

// stage is a bell with threads, and behind the bell a cell for each thing, which holds 1 once it is there.
type stage struct {
	t       *testing.T
	m       *cells.Mem
	b       *bell.Bell
	workers int
	threads []*thread
	sleeps  []bool         // who has done Sleep, and neither was roused nor has done Up since
	unseen  []map[int]bool // what each of those has looked for in vain since
	met     map[[2]int]int // how often a kind of operation has come to an outcome, and a look to seeing (1) or not (0)
}

func newStage(t *testing.T, workers, things int, threads []thread) *stage {
	m := cells.New(workers + things)
	s := &stage{t: t, m: m, b: laid(t, m, 0, workers), workers: workers, met: map[[2]int]int{}}
	s.sleeps, s.unseen = make([]bool, workers), make([]map[int]bool, workers)
	for w := range workers {
		s.up(w)
	}
	for _, th := range threads {
		s.threads = append(s.threads, &th)
	}
	return s
}

// play picks threads till all of them are through.
func (s *stage) play(pick func(n int) int) {
	goes := func(k int) bool { return s.threads[k].at < len(s.threads[k].acts) }
	order := trial.Turns(s.t, len(s.threads), goes, func(k int) { s.step(s.threads[k]) }, pick)
	if s.t.Failed() { // it tells the first order that is wrong, and not those behind it too
		s.t.Fatalf("%d workers, order %v; the cells hold %v", s.workers, order, s.m.All())
	}
}

func (s *stage) step(th *thread) {
	switch a := th.acts[th.at]; a.kind {
	case bring:
		s.m.Store(s.workers+a.thing, 1)
		th.at++
	case look:
		s.look(th.w, a.thing)
		th.at++
	default:
		s.operate(th, a)
	}
}

func (s *stage) look(w, thing int) {
	v, _ := s.m.Load(s.workers + thing)
	s.met[[2]int{look, int(v)}]++
	if v == 0 && s.sleeps[w] {
		s.unseen[w][thing] = true
	}
}

// up is of one who sleeps no more, whoever has seen to it.
func (s *stage) up(w int) {
	s.sleeps[w], s.unseen[w] = false, map[int]bool{}
	for _, th := range s.threads {
		if th.under != nil {
			th.through[w] = false
		}
	}
}

func (s *stage) operate(th *thread, a act) {
	if th.under == nil {
		th.under, th.steps, th.through = begin(s.b, a.kind, th.w), 0, append([]bool{}, s.sleeps...)
	}
	over := th.under.Step()
	if th.steps++; th.steps > 1 && a.kind != ring || th.steps > 2*s.workers {
		s.t.Errorf("an operation of kind %d: %d steps", a.kind, th.steps)
	}
	if over {
		s.over(th, a)
		th.under = nil
		th.at++
	}
}

func (s *stage) over(th *thread, a act) {
	o := th.under
	s.met[[2]int{a.kind, o.Outcome()}]++
	switch a.kind {
	case sleep:
		s.sleeps[th.w] = true
	case up:
		s.up(th.w)
	case poll:
		if (o.Outcome() == api.None) != s.sleeps[th.w] {
			s.t.Errorf("Poll(%d): outcome %d, sleeps %t", th.w, o.Outcome(), s.sleeps[th.w])
		}
	case ring:
		s.rung(th, a.thing)
	}
}

func (s *stage) rung(th *thread, thing int) {
	if who := th.under.Who(); th.under.Outcome() == api.Rouse {
		if !s.sleeps[who] {
			s.t.Errorf("%d is roused, who doesn't sleep, or was roused from that sleep", who)
		}
		s.up(who)
		return
	}
	for w := range s.workers {
		if th.through[w] {
			s.t.Errorf("nobody is roused by a Ring through which %d has slept", w)
		}
		if s.unseen[w][thing] {
			s.t.Errorf("%d has slept and hasn't seen what was brought, nor was anybody seen by the Ring behind that", w)
		}
	}
}

// P6.5: all orders of a few threads.
func TestEveryOrder(t *testing.T) {
	for i, c := range []struct {
		workers, things, atLeast int
		threads                  []thread
	}{
		{1, 1, 8, []thread{worker(0, 0), bringer(0)}},
		{2, 1, 12, []thread{worker(1, 0), bringer(0)}},
		{2, 1, 200, []thread{worker(0, 0), worker(1, 0), bringer(0)}},
		{3, 1, 10000, []thread{worker(0, 0), worker(1, 0), worker(2, 0), bringer(0)}},
		{1, 2, 1000, []thread{worker(0, 0, 1), bringer(0), bringer(1)}},
		{2, 2, 1500, []thread{worker(0, 0, 1), bringer(0), bringer(1)}},
		{2, 2, 8000, []thread{worker(1, 1, 0), bringer(0), bringer(1)}},
		{1, 1, 500, []thread{{w: 0, acts: []act{{sleep, 0}, {look, 0}, {up, 0}, {poll, 0}}}, bringer(0), doer(nobody, ring)}},
		{1, 1, 2000, []thread{{w: 0, acts: []act{{sleep, 0}, {look, 0}, {poll, 0}, {sleep, 0}, {look, 0}, {poll, 0}}}, bringer(0), doer(nobody, ring)}},
		{3, 0, 100, []thread{doer(0, sleep), doer(1, sleep), doer(2, sleep), doer(nobody, ring)}},
		{1, 0, 90, []thread{doer(0, sleep), doer(nobody, ring), doer(nobody, ring), doer(nobody, ring)}},
		{1, 0, 200, []thread{doer(0, sleep, poll, sleep, poll), doer(nobody, ring), doer(nobody, ring)}},
		{2, 0, 400, []thread{doer(0, sleep), doer(1, sleep), doer(nobody, ring), doer(nobody, ring)}},
		{2, 0, 7000, []thread{doer(0, sleep, up, sleep), doer(1, sleep), doer(nobody, ring), doer(nobody, ring)}},
	} {
		t.Run(fmt.Sprint(i), func(t *testing.T) {
			plays := trial.EveryOrder(func(pick func(int) int) { newStage(t, c.workers, c.things, c.threads).play(pick) })
			if plays < c.atLeast {
				t.Errorf("%d orders", plays)
			}
		})
	}
}

// drawn makes threads: each worker's, which sleeps and looks around and is up again, and some that bring and ring.
func drawn(draw *rand.Rand, workers, things int) []thread {
	var threads []thread
	for w := range workers {
		th := thread{w: w}
		for range draw.Intn(4) {
			th.acts = append(th.acts, act{kind: sleep})
			for range draw.Intn(2 + things) {
				th.acts = append(th.acts, act{look, draw.Intn(things)})
			}
			for range draw.Intn(4) {
				th.acts = append(th.acts, act{[]int{poll, poll, up}[draw.Intn(3)], nothing})
			}
		}
		threads = append(threads, th)
	}
	for k := range things {
		threads = append(threads, bringer(k))
	}
	for range draw.Intn(3) {
		threads = append(threads, doer(nobody, ring, ring))
	}
	return threads
}

// P6.5: some orders of many threads.
func TestManyOrders(t *testing.T) {
	met := map[[2]int]int{}
	for seed := range int64(4000) {
		draw := rand.New(rand.NewSource(seed))
		workers, things := 1+draw.Intn(api.MaxWorkers), 1+draw.Intn(4)
		s := newStage(t, workers, things, drawn(draw, workers, things))
		s.play(draw.Intn)
		for k, n := range s.met {
			met[k] += n
		}
	}
	trial.Met(t, met, [][2]int{{sleep, api.Done}, {up, api.Done}, {poll, api.Done}, {poll, api.None}, {ring, api.Rouse}, {ring, api.None}, {look, 0}, {look, 1}})
}
