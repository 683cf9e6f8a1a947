package gate_test

import (
	"math"
	"slices"
	"testing"

	"troupe/api"
	"troupe/cells"
	"troupe/gate"
	"troupe/trial"
)

const edge = uint64(1) << 63 // what a closed ring's tail has beside the ticket: of a gate it says nothing

// fresh makes a gate in a memory that has no other cell.
func fresh(t *testing.T, slots int) (*cells.Mem, *gate.Gate) {
	t.Helper()
	m := cells.New(gate.Size(slots))
	return m, laid(t, m, 0, slots)
}

func laid(t *testing.T, m *cells.Mem, base, slots int) *gate.Gate {
	t.Helper()
	g, e := gate.Make(m, base, slots)
	if g == nil || e != api.OK {
		t.Fatalf("Make(%d cells, %d, %d) = %v, %d", m.Len(), base, slots, g, e)
	}
	return g
}

// holding makes a memory that holds these numbers, and the gate in it, which thus is as it never may have become.
func holding(t *testing.T, held ...uint64) (*cells.Mem, *gate.Gate) {
	t.Helper()
	m, g := fresh(t, len(held)/2-1)
	for i, v := range held {
		m.Store(i, v)
	}
	return m, g
}

func wantTold(t *testing.T, name string, o *gate.Op, outcome int, value uint64) {
	t.Helper()
	if o.Over() != (outcome != api.Pending) || o.Outcome() != outcome || o.Value() != value {
		t.Errorf("%s: over %t, outcome %d, value %d, want outcome %d, value %d", name, o.Over(), o.Outcome(), o.Value(), outcome, value)
	}
}

// wantRun steps o to its end, from wherever it stands.
func wantRun(t *testing.T, name string, o *gate.Op, steps, outcome int, value uint64) {
	t.Helper()
	if n := trial.Run(t, o); n != steps {
		t.Errorf("%s: %d steps, want %d", name, n, steps)
	}
	wantTold(t, name, o, outcome, value)
}

func wantPut(t *testing.T, g *gate.Gate, v uint64) {
	t.Helper()
	wantRun(t, "Put", g.Put(v), 5, api.Done, 0)
}

func wantTake(t *testing.T, g *gate.Gate, v uint64) {
	t.Helper()
	wantRun(t, "Take", g.Take(), 5, api.Done, v)
}

func stepped(o *gate.Op, steps int) *gate.Op {
	for range steps {
		o.Step()
	}
	return o
}

func TestExamplesOfTheChapter(t *testing.T) {
	_, g := fresh(t, 1)
	wantPut(t, g, 7)
	wantRun(t, "Put", g.Put(8), 2, api.Full, 0)
	wantTake(t, g, 7)
	wantRun(t, "Take", g.Take(), 2, api.None, 0)

	wantPut(t, g, 9)
	a, b := g.Take(), g.Take()
	for range 5 {
		a.Step()
		b.Step()
	}
	wantTold(t, "the first one of two Takes", a, api.Done, 9)
	wantTold(t, "the second one of two Takes", b, api.None, 0)
}

// P5.1
func TestSizeAndMake(t *testing.T) {
	trial.Layout{
		Most:  api.MaxSlots,
		Cells: func(slots int) []uint64 { return make([]uint64, 2+2*slots) },
		Size:  gate.Size,
		Make: func(m *cells.Mem, base, slots int) (bool, api.Errno) {
			g, e := gate.Make(m, base, slots)
			return g != nil, e
		},
	}.Hold(t)
}

// P5.1: what a gate is lies in its cells alone.
func TestGateIsLaidOutAnew(t *testing.T) {
	m, g := fresh(t, 2)
	wantPut(t, g, 7)
	wantPut(t, g, 8)
	wantTake(t, g, 7)
	again := laid(t, m, 0, 2)
	trial.Cells(t, m, 0, 0, 0, 0, 0, 0)
	wantPut(t, again, 5)
	wantTake(t, g, 5)
}

// P5.1 to P5.3: the cells of a gate that doesn't begin at 0.
func TestGateBesideOthers(t *testing.T) {
	m := cells.New(12)
	for i := range m.Len() {
		m.Store(i, 9)
	}
	g := laid(t, m, 3, 3)
	for v := range uint64(3) {
		wantPut(t, g, 70+v)
	}
	trial.Cells(t, m, 9, 9, 9, 3, 0, 1, 70, 1, 71, 1, 72, 9)
	wantRun(t, "Put", g.Put(73), 2, api.Full, 0)
	wantTake(t, g, 70)
	wantTake(t, g, 71)
	trial.Cells(t, m, 9, 9, 9, 3, 2, 2, 70, 2, 71, 1, 72, 9)
	wantPut(t, g, 73)
	trial.Cells(t, m, 9, 9, 9, 4, 2, 3, 73, 2, 71, 1, 72, 9)
}

// P5.2
func TestPutStepByStep(t *testing.T) {
	m, g := holding(t, 5, 3, 6, 70, 4, 71) // two slots; ticket 5 is of round 2, and its slot waits for it
	o := g.Put(9)
	trial.Steps(t, m, o,
		[]uint64{5, 3, 6, 70, 4, 71},
		[]uint64{5, 3, 6, 70, 4, 71},
		[]uint64{6, 3, 6, 70, 4, 71},
		[]uint64{6, 3, 6, 70, 4, 9},
		[]uint64{6, 3, 6, 70, 5, 9})
	wantTold(t, "Put", o, api.Done, 0)
}

// P5.2: each turn below the one that waits, of a slot that has an older value and of one that is being emptied.
func TestPutIntoAFullGate(t *testing.T) {
	for _, c := range []struct{ tail, turn uint64 }{
		{1, 0}, {1, 1}, {2, 0}, {2, 1}, {2, 2}, {2, 3}, {edge - 1, 0}, {edge - 1, math.MaxUint64 - 2}, {edge - 1, math.MaxUint64 - 3},
	} {
		held := []uint64{c.tail, 0, c.turn, 7}
		m, g := holding(t, held...)
		o := g.Put(9)
		trial.Steps(t, m, o, held, held)
		wantTold(t, "Put", o, api.Full, 0)
	}
}

// P5.2: the turn is that of the ticket's slot.
func TestPutLooksAtItsTicketsSlot(t *testing.T) {
	for slot := range uint64(3) {
		held := []uint64{3 + slot, 0, 1, 70, 1, 71, 1, 72}
		_, g := holding(t, held...)
		wantRun(t, "Put", g.Put(9), 2, api.Full, 0)
		held[2+2*slot] = 2
		m, g := holding(t, held...)
		wantPut(t, g, 9)
		held[0], held[2+2*slot], held[3+2*slot] = 4+slot, 3, 9
		trial.Cells(t, m, held...)
	}
}

// P5.2: a turn that is ahead sends it back, and so again and again.
func TestPutGoesOnAtItsBeginningWhenTheTurnIsAhead(t *testing.T) {
	for _, turn := range []uint64{9, 10, 11, edge, math.MaxUint64} {
		held := []uint64{4, 4, turn, 70} // one slot; ticket 4 waits at 8
		m, g := holding(t, held...)
		o := g.Put(5)
		for range 20 {
			if trial.One(t, m, o) {
				t.Fatal("a Put whose slot's turn is ahead has ended")
			}
			trial.Cells(t, m, held...)
		}
		m.Store(0, 5) // its next step loads the tail anew
		m.Store(2, 10)
		trial.Steps(t, m, o,
			[]uint64{5, 4, 10, 70},
			[]uint64{5, 4, 10, 70},
			[]uint64{6, 4, 10, 70},
			[]uint64{6, 4, 10, 5},
			[]uint64{6, 4, 11, 5})
		wantTold(t, "Put", o, api.Done, 0)
	}
}

// P5.2: a tail that is another one by now sends it back.
func TestPutGoesOnAtItsBeginningWhenTheTailIsAnotherOne(t *testing.T) {
	m, g := fresh(t, 3)
	late := stepped(g.Put(7), 2)
	wantPut(t, g, 8)
	wantRun(t, "Put", late, 6, api.Done, 0)
	trial.Cells(t, m, 2, 0, 1, 8, 1, 7, 0, 0)

	m, g = fresh(t, 1)
	late = stepped(g.Put(7), 2)
	wantPut(t, g, 8)
	wantRun(t, "Put", late, 3, api.Full, 0) // the Swap, the tail, the turn
	trial.Cells(t, m, 1, 0, 1, 8)

	for _, tail := range []uint64{3, 5, edge + 4} {
		m, g = holding(t, 4, 4, 8, 70)
		o := stepped(g.Put(7), 2)
		m.Store(0, tail)
		held := m.All()
		trial.One(t, m, o)
		trial.Cells(t, m, held...)
		m.Store(0, 4)
		wantRun(t, "Put", o, 5, api.Done, 0)
		trial.Cells(t, m, 5, 4, 9, 7)
	}
}

// P5.2: it is never closed.
func TestPutBehindTheEdgeOfTickets(t *testing.T) {
	for _, tail := range []uint64{edge, edge + 1, edge + 77, math.MaxUint64 - 1} {
		_, g := holding(t, tail, 0, 0, 7, 0, 8)
		wantRun(t, "Put", g.Put(9), 2, api.Full, 0)
		held := []uint64{tail, 0, 0, 7, 0, 8}
		slot := 2 + 2*(tail%2)
		held[slot] = tail - tail%2 // of two slots, that is twice the round
		m, g := holding(t, held...)
		wantPut(t, g, 9)
		held[0], held[slot], held[slot+1] = tail+1, held[slot]+1, 9
		trial.Cells(t, m, held...)
	}
}

// P5.2, P5.4: numbers are those of 64 bits.
func TestTailsWrap(t *testing.T) {
	// One slot: twice the round of ticket 2^63 + 2 is 4, that of the last ticket is 2^64 - 2.
	m, g := holding(t, edge+2, 0, 4, 70)
	wantPut(t, g, 9)
	trial.Cells(t, m, edge+3, 0, 5, 9)
	m, g = holding(t, math.MaxUint64, 0, math.MaxUint64-1, 70)
	wantPut(t, g, 9)
	trial.Cells(t, m, 0, 0, math.MaxUint64, 9)
	// Three slots: 2^64 - 1 is a multiple of three.
	m, g = holding(t, math.MaxUint64, 0, 0xAAAAAAAAAAAAAAAA, 70, 5, 71, 5, 72)
	wantPut(t, g, 9)
	trial.Cells(t, m, 0, 0, 0xAAAAAAAAAAAAAAAB, 9, 5, 71, 5, 72)
}

// P5.3
func TestTakeStepByStep(t *testing.T) {
	m, g := holding(t, 6, 3, 4, 70, 3, 71) // two slots; ticket 3 is of round 1, and its slot has its value
	o := g.Take()
	trial.Steps(t, m, o,
		[]uint64{6, 3, 4, 70, 3, 71},
		[]uint64{6, 3, 4, 70, 3, 71},
		[]uint64{6, 4, 4, 70, 3, 71},
		[]uint64{6, 4, 4, 70, 3, 71},
		[]uint64{6, 4, 4, 70, 4, 71})
	wantTold(t, "Take", o, api.Done, 71)
}

// P5.3: each turn below the one that has a value, whatever the tail is.
func TestTakeOfNothing(t *testing.T) {
	for _, tail := range []uint64{0, 2, 3, 9, edge + 2} {
		for _, turn := range []uint64{0, 1, 2, 3, 4} {
			held := []uint64{tail, 2, turn, 70} // one slot; ticket 2 is there at 5
			m, g := holding(t, held...)
			o := g.Take()
			trial.Steps(t, m, o, held, held)
			wantTold(t, "Take", o, api.None, 0)
		}
	}
}

// P5.3: what is there by its turn is taken, even where the tail says otherwise.
func TestTakeAsksForNoTail(t *testing.T) {
	for _, tail := range []uint64{0, 2, 3, edge + 2} {
		m, g := holding(t, tail, 2, 5, 70)
		wantTake(t, g, 70)
		trial.Cells(t, m, tail, 3, 6, 70)
	}
}

// P5.3: the turn and the value are those of the ticket's slot.
func TestTakeLooksAtItsTicketsSlot(t *testing.T) {
	for slot := range uint64(3) {
		held := []uint64{9, 3 + slot, 2, 70, 2, 71, 2, 72}
		_, g := holding(t, held...)
		wantRun(t, "Take", g.Take(), 2, api.None, 0)
		held[2+2*slot] = 3
		m, g := holding(t, held...)
		wantTake(t, g, 70+slot)
		held[1], held[2+2*slot] = 4+slot, 4
		trial.Cells(t, m, held...)
	}
}

// P5.3: a turn that is ahead sends it back, and so again and again.
func TestTakeGoesOnAtItsBeginningWhenTheTurnIsAhead(t *testing.T) {
	for _, turn := range []uint64{10, 11, 12, edge, math.MaxUint64} {
		held := []uint64{6, 4, turn, 70} // one slot; ticket 4 is there at 9
		m, g := holding(t, held...)
		o := g.Take()
		for range 20 {
			if trial.One(t, m, o) {
				t.Fatal("a Take whose slot's turn is ahead has ended")
			}
			trial.Cells(t, m, held...)
		}
		m.Store(1, 5) // its next step loads the head anew
		m.Store(2, 11)
		trial.Steps(t, m, o,
			[]uint64{6, 5, 11, 70},
			[]uint64{6, 5, 11, 70},
			[]uint64{6, 6, 11, 70},
			[]uint64{6, 6, 11, 70},
			[]uint64{6, 6, 12, 70})
		wantTold(t, "Take", o, api.Done, 70)
	}
}

// P5.3: a head that is another one by now sends it back.
func TestTakeGoesOnAtItsBeginningWhenTheHeadIsAnotherOne(t *testing.T) {
	m, g := holding(t, 2, 0, 1, 70, 1, 71, 0, 0)
	late := stepped(g.Take(), 2)
	wantTake(t, g, 70)
	wantRun(t, "Take", late, 6, api.Done, 71)
	trial.Cells(t, m, 2, 2, 2, 70, 2, 71, 0, 0)

	m, g = holding(t, 1, 0, 1, 70)
	late = stepped(g.Take(), 2)
	wantTake(t, g, 70)
	wantRun(t, "Take", late, 3, api.None, 0) // the Swap, the head, the turn
	trial.Cells(t, m, 1, 1, 2, 70)

	for _, head := range []uint64{3, 5, edge + 4} {
		m, g = holding(t, 5, 4, 9, 70)
		o := stepped(g.Take(), 2)
		m.Store(1, head)
		held := m.All()
		trial.One(t, m, o)
		trial.Cells(t, m, held...)
		m.Store(1, 4)
		wantRun(t, "Take", o, 5, api.Done, 70)
		trial.Cells(t, m, 5, 5, 10, 70)
	}
}

// P5.3, P5.4: numbers are those of 64 bits.
func TestHeadsWrap(t *testing.T) {
	// One slot: ticket 2^64 - 1 is of the round of that number, and its slot has it at 2^64 - 1.
	m, g := holding(t, 0, math.MaxUint64, math.MaxUint64, 70)
	wantTake(t, g, 70)
	trial.Cells(t, m, 0, 0, 0, 70)
	m, g = holding(t, 9, edge+3, 7, 70)
	wantTake(t, g, 70)
	trial.Cells(t, m, 9, edge+4, 8, 70)
	// Three slots: 2^64 - 1 is a multiple of three.
	m, g = holding(t, 0, math.MaxUint64, 0xAAAAAAAAAAAAAAAB, 70, 5, 71, 5, 72)
	wantTake(t, g, 70)
	trial.Cells(t, m, 0, 0, 0xAAAAAAAAAAAAAAAC, 70, 5, 71, 5, 72)
}

// P5.2, P5.3: each number is that of the step that loads it, and what was drawn is kept whatever the cells hold by then.
func TestEachStepTouchesItsCellThen(t *testing.T) {
	m, g := holding(t, 4, 4, 8, 70)
	o := stepped(g.Put(7), 2)
	m.Store(2, 99)
	o.Step()
	m.Store(0, 77)
	m.Store(3, 71)
	o.Step()
	trial.Cells(t, m, 77, 4, 99, 7)
	m.Store(3, 72)
	wantRun(t, "Put", o, 1, api.Done, 0)
	trial.Cells(t, m, 77, 4, 9, 72)

	m, g = holding(t, 5, 4, 9, 70)
	o = stepped(g.Take(), 2)
	m.Store(2, 99)
	o.Step()
	m.Store(1, 77)
	m.Store(3, 71)
	o.Step()
	m.Store(3, 72)
	wantRun(t, "Take", o, 1, api.Done, 71)
	trial.Cells(t, m, 5, 77, 10, 72)
}

// P5.2, P5.3: all values go in and out as they are.
func TestValuesOfAllSizes(t *testing.T) {
	_, g := fresh(t, 2)
	for _, v := range []uint64{0, 1, edge - 1, edge, edge + 1, math.MaxUint64} {
		wantPut(t, g, v)
		wantPut(t, g, ^v)
		wantTake(t, g, v)
		wantTake(t, g, ^v)
	}
}

// P5.3, P5.5: a value that is drawn but not there yet holds up those behind it.
func TestTakeWaitsForTheFirstTicket(t *testing.T) {
	_, g := fresh(t, 3)
	slow := stepped(g.Put(7), 3)
	wantPut(t, g, 8)
	wantRun(t, "Take", g.Take(), 2, api.None, 0)
	slow.Step()
	wantRun(t, "Take", g.Take(), 2, api.None, 0)
	wantRun(t, "Put", slow, 1, api.Done, 0)
	wantTake(t, g, 7)
	wantTake(t, g, 8)
}

// P5.2, P5.5: a slot that is being emptied is no free one.
func TestPutWaitsForTheSlot(t *testing.T) {
	_, g := fresh(t, 2)
	wantPut(t, g, 7)
	wantPut(t, g, 8)
	slow := stepped(g.Take(), 4)
	wantTake(t, g, 8)
	wantRun(t, "Put", g.Put(9), 2, api.Full, 0)
	wantRun(t, "Take", slow, 1, api.Done, 7)
	wantPut(t, g, 9)
	wantPut(t, g, 10)
	wantRun(t, "Put", g.Put(11), 2, api.Full, 0)
}

// P5.5: who has looked at a slot that went round since draws no ticket of it.
func TestSlotThatWentRound(t *testing.T) {
	_, g := fresh(t, 1)
	put := stepped(g.Put(5), 2)
	wantPut(t, g, 7)
	take := stepped(g.Take(), 2)
	wantTake(t, g, 7)
	wantPut(t, g, 8)
	wantRun(t, "Take", take, 6, api.Done, 8)
	wantRun(t, "Put", put, 6, api.Done, 0)
	wantTake(t, g, 5)
}

// P5.4
func TestNothingIsToldAheadOfTheOutcome(t *testing.T) {
	for _, c := range []struct {
		name    string
		o       func(*gate.Gate) *gate.Op
		head    uint64
		tail    uint64
		steps   int
		outcome int
		value   uint64
	}{
		{"Put", func(g *gate.Gate) *gate.Op { return g.Put(7) }, 5, 6, 5, api.Done, 0},
		{"Put that is Full", func(g *gate.Gate) *gate.Op { return g.Put(7) }, 5, 8, 2, api.Full, 0},
		{"Take", (*gate.Gate).Take, 5, 6, 5, api.Done, 72},
		{"Take of nothing", (*gate.Gate).Take, 6, 6, 2, api.None, 0},
	} {
		m, g := holding(t, c.tail, c.head, 4, 70, 4, 71, 3, 72) // three slots, of which the last one has a value
		o := c.o(g)
		for i := range c.steps {
			wantTold(t, c.name, o, api.Pending, 0)
			if over := trial.One(t, m, o); over != (i == c.steps-1) {
				t.Errorf("%s: over %t at step %d", c.name, over, i+1)
			}
		}
		wantTold(t, c.name, o, c.outcome, c.value)
	}
}

// P5.4
func TestStepOfOneThatIsOverDoesNothing(t *testing.T) {
	m, g := fresh(t, 1)
	put, full, take, none := g.Put(7), g.Put(8), g.Take(), g.Take()
	wantRun(t, "Put", put, 5, api.Done, 0)
	wantRun(t, "Put", full, 2, api.Full, 0)
	wantRun(t, "Take", take, 5, api.Done, 7)
	wantRun(t, "Take", none, 2, api.None, 0)
	for _, held := range [][]uint64{{0, 0, 0, 0}, {1, 0, 1, 9}} { // so that an access too many would tell another thing
		for i, v := range held {
			m.Store(i, v)
		}
		for _, c := range []struct {
			o       *gate.Op
			outcome int
			value   uint64
		}{{put, api.Done, 0}, {full, api.Full, 0}, {take, api.Done, 7}, {none, api.None, 0}} {
			for range 7 {
				if !trial.One(t, m, c.o) {
					t.Error("an operation that was over is over no more")
				}
			}
			wantTold(t, "an operation that is over", c.o, c.outcome, c.value)
		}
		trial.Cells(t, m, held...)
	}
}

// P5.4: an operation that isn't stepped does nothing, and its calls touch nothing.
func TestOperationsBeginWithTheirFirstStep(t *testing.T) {
	m, g := fresh(t, 1)
	touched := m.Touched()
	put, take := g.Put(7), g.Take()
	wantTold(t, "a Put that hasn't begun", put, api.Pending, 0)
	wantTold(t, "a Take that hasn't begun", take, api.Pending, 0)
	if m.Touched() != touched {
		t.Error("an operation has touched the memory ahead of its first step")
	}
	wantPut(t, g, 8)
	wantRun(t, "Take", take, 5, api.Done, 8)
	wantRun(t, "Put", put, 5, api.Done, 0)
	wantTake(t, g, 7)
}

// Rule 6: two gates in two memories, and two that share one.
func TestGatesAreApart(t *testing.T) {
	m := cells.New(14)
	a, b := laid(t, m, 0, 2), laid(t, m, 6, 3)
	other, c := fresh(t, 2)
	for _, g := range []*gate.Gate{a, c} {
		wantPut(t, g, 7)
		wantPut(t, g, 8)
	}
	wantRun(t, "Take", b.Take(), 2, api.None, 0)
	wantPut(t, b, 9)
	wantTake(t, a, 7)
	wantTake(t, c, 7)
	if !slices.Equal(m.All()[:6], other.All()) {
		t.Errorf("the same was done: %v, %v", m.All()[:6], other.All())
	}
	wantTake(t, b, 9)
	trial.Cells(t, m, 2, 1, 2, 7, 1, 8, 1, 1, 2, 9, 0, 0, 0, 0)
}

// Rule 1: all numbers in all cells.
func TestStepsEndWhateverTheCellsHold(t *testing.T) {
	odd := []uint64{0, 1, 2, 3, edge - 1, edge, edge + 1, math.MaxUint64 - 1, math.MaxUint64}
	for _, tail := range odd {
		for _, head := range odd {
			for _, turn := range odd {
				m, g := holding(t, tail, head, turn, 7, turn, 8, turn, 9)
				for _, o := range []*gate.Op{g.Put(5), g.Take()} {
					for range 9 {
						trial.One(t, m, o)
					}
				}
			}
		}
	}
}
