package deque

import (
	"fmt"
	"math/rand"
	"slices"
	"testing"

	"troupe/api"
	"troupe/cells"
	"troupe/trial"
)

const (
	push = iota
	pop
	steal
	kinds
)

func begin(d *Deque, kind int, v uint64) *Op {
	switch kind {
	case push:
		return d.Push(v)
	case pop:
		return d.Pop()
	}
	return d.Steal()
}

// plain is an operation as the chapter's words have it: which access is its next one, by the chapter's numbers.
type plain struct {
	kind, access int
	c, t, b, v   uint64
	swapped      bool
	outcome      int
	value        uint64
}

func (p *plain) step(mem []uint64) {
	if p.outcome != api.Pending {
		return
	}
	p.access++
	switch p.kind {
	case push:
		p.push(mem)
	case pop:
		p.pop(mem)
	case steal:
		p.steal(mem)
	}
}

func (p *plain) slot(n uint64) uint64 { return 2 + n%p.c }

func (p *plain) done(v uint64) { p.outcome, p.value = api.Done, v }

func (p *plain) swapTop(mem []uint64) {
	if p.swapped = mem[0] == p.t; p.swapped {
		mem[0] = p.t + 1
	}
}

func (p *plain) push(mem []uint64) {
	switch p.access {
	case 1:
		p.b = mem[1]
	case 2:
		if p.t = mem[0]; p.b-p.t >= p.c {
			p.outcome = api.Full
		}
	case 3:
		mem[p.slot(p.b)] = p.v
	case 4:
		mem[1] = p.b + 1
		p.done(0)
	}
}

func (p *plain) pop(mem []uint64) {
	switch p.access {
	case 1:
		p.b = mem[1]
	case 2:
		mem[1] = p.b - 1
	case 3:
		p.t = mem[0]
	case 4:
		if p.t > p.b-1 {
			mem[1] = p.b
			p.outcome = api.None
		} else if p.t < p.b-1 {
			p.done(mem[p.slot(p.b-1)])
		} else {
			p.v = mem[p.slot(p.t)]
		}
	case 5:
		p.swapTop(mem)
	case 6:
		mem[1] = p.b
		if p.outcome = api.None; p.swapped {
			p.done(p.v)
		}
	}
}

func (p *plain) steal(mem []uint64) {
	switch p.access {
	case 1:
		p.t = mem[0]
	case 2:
		if p.b = mem[1]; p.t >= p.b {
			p.outcome = api.None
		}
	case 3:
		p.v = mem[p.slot(p.t)]
	case 4:
		p.swapTop(mem)
		if p.outcome = api.Lost; p.swapped {
			p.done(p.v)
		}
	}
}

// near draws a number that stands near to one that matters: to the top, to the bottom, or to an end of the numbers.
func near(draw *rand.Rand, mem []uint64) uint64 {
	return []uint64{mem[0], mem[1], 0, 1 << 63}[draw.Intn(4)] + uint64(draw.Intn(5)) - 2
}

// P4.2 to P4.5: operations of all kinds, mixed step by step, more than one of an owner too, beside somebody who now and then changes a cell, or not; all that is told and all cells are held against the plain ones.
func TestStepsAgainstPlainOnes(t *testing.T) {
	for seed := range int64(400) {
		draw := rand.New(rand.NewSource(seed))
		slots := 1 + draw.Intn(4)
		m, d := fresh(t, slots)
		twins := func() trial.Twins {
			kind, v := draw.Intn(kinds), draw.Uint64()
			o, p := begin(d, kind, v), &plain{kind: kind, c: uint64(slots), v: v}
			same := func() { wantTold(t, fmt.Sprint("an operation of kind ", kind), o, p.outcome, p.value) }
			return trial.Twins{Op: o, Plain: p.step, Same: same}
		}
		trial.Mixed(t, m, draw.Intn, twins, 4*draw.Intn(3), func(held []uint64) uint64 { return near(draw, held) })
		if t.Failed() {
			t.Fatalf("seed %d, %d slots", seed, slots)
		}
	}
}

// thread does its operations one behind the other.
type thread struct {
	kinds []int
	at    int // which of them is its next one, or under way
	under *Op
	steps int    // of the one under way
	top   uint64 // behind its first step
}

// stage is a deque with threads, the first of which is the owner; what it pushes are 1, 2, and so on.
type stage struct {
	t       *testing.T
	m       *cells.Mem
	d       *Deque
	slots   int
	threads []*thread
	pushed  []uint64
	taken   []uint64
	stolen  []uint64
	met     map[[2]int]int // how often a kind of operation has come to an outcome
}

func newStage(t *testing.T, slots, ahead int, kinds [][]int) *stage {
	m, d := fresh(t, slots)
	s := &stage{t: t, m: m, d: d, slots: slots, met: map[[2]int]int{}}
	for v := range uint64(ahead) {
		trial.Run(t, d.Push(v+1))
		s.pushed = append(s.pushed, v+1)
	}
	for _, k := range kinds {
		s.threads = append(s.threads, &thread{kinds: k})
	}
	return s
}

// play picks threads till all of them are through.
func (s *stage) play(pick func(n int) int) {
	goes := func(k int) bool { return s.threads[k].at < len(s.threads[k].kinds) }
	order := trial.Turns(s.t, len(s.threads), goes, func(k int) { s.step(s.threads[k]) }, pick)
	s.empty()
	if s.t.Failed() { // it tells the first order that is wrong, and not those behind it too
		s.t.Fatalf("%d slots, order %v; pushed %v, taken %v, stolen %v", s.slots, order, s.pushed, s.taken, s.stolen)
	}
}

func (s *stage) in() int { return len(s.pushed) - len(s.taken) }

func (s *stage) step(th *thread) {
	kind, v, in, top := th.kinds[th.at], uint64(len(s.pushed)+1), s.in(), s.m.Peek(0)
	if th.under == nil {
		th.under, th.steps = begin(s.d, kind, v), 0
	}
	over := th.under.Step()
	if th.steps++; th.steps == 1 {
		th.top = s.m.Peek(0)
	}
	full := over && th.under.Outcome() == api.Full
	if kind == push && th.steps == 2 && full != (in == s.slots) {
		s.t.Errorf("a Push beside %d: full %t", in, full)
	}
	if kind == steal && th.steps == 4 && (th.under.Outcome() == api.Lost) != (th.top != top) {
		s.t.Errorf("a Steal: %d, where the top was %d and is %d", th.under.Outcome(), th.top, top)
	}
	if most := []int{4, 6, 4}[kind]; over != (th.under.Outcome() != api.Pending) || th.steps > most || th.steps == most && !over {
		s.t.Errorf("an operation of kind %d: over %t behind %d steps", kind, over, th.steps)
	}
	if over {
		s.over(kind, v, th.under)
		th.under = nil
		th.at++
	}
}

func (s *stage) over(kind int, v uint64, o *Op) {
	s.met[[2]int{kind, o.Outcome()}]++
	if kind == pop && o.Outcome() == api.None && s.in() > 0 {
		s.t.Errorf("a Pop: None, beside %d", s.in())
	}
	if o.Outcome() != api.Done {
		return
	}
	switch kind {
	case push:
		s.pushed = append(s.pushed, v)
	case steal:
		s.stolen = append(s.stolen, o.Value())
		fallthrough
	case pop:
		s.taken = append(s.taken, o.Value())
	}
	if s.in() > s.slots {
		s.t.Errorf("%d are in the deque", s.in())
	}
}

// empty steals what is left, and holds what was taken against what was pushed; nobody else steps any more.
func (s *stage) empty() {
	for range s.slots + 1 {
		o := s.d.Steal()
		trial.Run(s.t, o)
		s.over(steal, 0, o)
	}
	if !slices.IsSorted(s.stolen) {
		s.t.Errorf("stolen in another order than that of pushing")
	}
	if slices.Sort(s.taken); !slices.Equal(s.taken, s.pushed) {
		s.t.Errorf("what was pushed wasn't taken, each once")
	}
}

// P4.6: all orders of a few operations.
func TestEveryOrder(t *testing.T) {
	for _, c := range []struct {
		slots, ahead, atLeast int
		threads               [][]int
	}{
		{1, 0, 1000, [][]int{{push}, {steal}, {steal}}},
		{1, 0, 1000, [][]int{{push, pop}, {steal, steal}}},
		{1, 1, 300, [][]int{{pop, push}, {steal}}},
		{1, 1, 1000, [][]int{{pop, push}, {steal, steal}}},
		{1, 1, 700, [][]int{{push, push, pop}, {steal}}},
		{1, 1, 10000, [][]int{{push, push}, {steal}, {steal}}},
		{1, 1, 10000, [][]int{{pop}, {steal}, {steal}}},
		{2, 1, 1000, [][]int{{push, pop, pop}, {steal}}},
		{2, 2, 5000, [][]int{{pop, pop}, {steal, steal}}},
		{2, 2, 10000, [][]int{{pop}, {steal}, {steal}}},
		{2, 2, 10000, [][]int{{}, {steal}, {steal}, {steal}}},
		{2, 2, 1000, [][]int{{push, push}, {steal, steal}}},
		{3, 2, 1000, [][]int{{push, pop, push}, {steal, steal}}},
	} {
		t.Run(fmt.Sprint(c.slots, c.ahead, c.threads), func(t *testing.T) {
			plays := trial.EveryOrder(func(pick func(int) int) { newStage(t, c.slots, c.ahead, c.threads).play(pick) })
			if plays < c.atLeast {
				t.Errorf("%d orders", plays)
			}
		})
	}
}

// P4.6: some orders of many operations.
func TestManyOrders(t *testing.T) {
	met := map[[2]int]int{}
	for seed := range int64(4000) {
		draw := rand.New(rand.NewSource(seed))
		threads := make([][]int, 1+draw.Intn(5))
		pops := 1 + draw.Intn(4)
		for range draw.Intn(30) {
			threads[0] = append(threads[0], []int{push, pop, push, push, push}[draw.Intn(1+pops)])
		}
		for k := range threads[1:] {
			threads[1+k] = slices.Repeat([]int{steal}, draw.Intn(10))
		}
		s := newStage(t, []int{1, 2, 3, 5, 64}[draw.Intn(5)], draw.Intn(2), threads)
		s.play(draw.Intn)
		for k, n := range s.met {
			met[k] += n
		}
	}
	for _, k := range [][2]int{{push, api.Done}, {push, api.Full}, {pop, api.Done}, {pop, api.None}, {steal, api.Done}, {steal, api.None}, {steal, api.Lost}} {
		if met[k] < 100 {
			t.Errorf("kind %d has come to outcome %d but %d times", k[0], k[1], met[k])
		}
	}
}

// P4.6: without thieves the last one pushed is popped first.
func TestOwnerAlone(t *testing.T) {
	for seed := range int64(200) {
		draw := rand.New(rand.NewSource(seed))
		slots := []int{1, 2, 3, 7, 64}[draw.Intn(5)]
		_, d := fresh(t, slots)
		var in []uint64
		for range 300 {
			v, pushes := draw.Uint64(), draw.Intn(5) > 1
			switch {
			case pushes && len(in) == slots:
				wantRun(t, "Push", d.Push(v), 2, api.Full, 0)
			case pushes:
				wantRun(t, "Push", d.Push(v), 4, api.Done, 0)
				in = append(in, v)
			case len(in) == 0:
				wantRun(t, "Pop", d.Pop(), 4, api.None, 0)
			default:
				steps := 4
				if len(in) == 1 {
					steps = 6
				}
				wantRun(t, "Pop", d.Pop(), steps, api.Done, in[len(in)-1])
				in = in[:len(in)-1]
			}
		}
	}
}
