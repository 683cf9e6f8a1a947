package ring

import (
	"math"
	"slices"
	"testing"

	"troupe/api"
	"troupe/cells"
	"troupe/trial"
)

const edge = uint64(1) << 63 // what a closed ring's tail has beside the ticket

// fresh makes a ring in a memory that has no other cell.
func fresh(t *testing.T, slots int) (*cells.Mem, *Ring) {
	t.Helper()
	m := cells.New(Size(slots))
	return m, laid(t, m, 0, slots)
}

func laid(t *testing.T, m *cells.Mem, base, slots int) *Ring {
	t.Helper()
	r, e := Make(m, base, slots)
	if r == nil || e != api.OK {
		t.Fatalf("Make(%d cells, %d, %d) = %v, %d", m.Len(), base, slots, r, e)
	}
	return r
}

// holding makes a memory that holds these numbers, and the ring in it, which thus is as it never may have become.
func holding(t *testing.T, held ...uint64) (*cells.Mem, *Ring) {
	t.Helper()
	m, r := fresh(t, len(held)/2-1)
	for i, v := range held {
		m.Store(i, v)
	}
	return m, r
}

func wantTold(t *testing.T, name string, o *Op, outcome int, value, ticket uint64) {
	t.Helper()
	if o.Over() != (outcome != api.Pending) || o.Outcome() != outcome || o.Value() != value || o.Ticket() != ticket {
		t.Errorf("%s: over %t, outcome %d, value %d, ticket %d, want outcome %d, value %d, ticket %d", name, o.Over(), o.Outcome(), o.Value(), o.Ticket(), outcome, value, ticket)
	}
}

func wantPut(t *testing.T, r *Ring, v uint64, steps, outcome int, ticket uint64) {
	t.Helper()
	o := r.Put(v)
	if n := trial.Run(t, o); n != steps {
		t.Errorf("Put(%d): %d steps, want %d", v, n, steps)
	}
	wantTold(t, "Put", o, outcome, 0, ticket)
}

// wantRun is of operations that have no ticket.
func wantRun(t *testing.T, name string, o *Op, steps, outcome int, value uint64) {
	t.Helper()
	if n := trial.Run(t, o); n != steps {
		t.Errorf("%s: %d steps, want %d", name, n, steps)
	}
	wantTold(t, name, o, outcome, value, 0)
}

func TestExamplesOfTheChapter(t *testing.T) {
	m, r := fresh(t, 2)
	trial.Cells(t, m, 0, 0, 0, 0, 0, 0)
	wantPut(t, r, 7, 5, api.Done, 0)
	wantPut(t, r, 8, 5, api.Done, 1)
	wantPut(t, r, 9, 2, api.Full, 0)
	wantRun(t, "Take", r.Take(), 5, api.Done, 7)
	wantPut(t, r, 9, 5, api.Done, 2)
	wantRun(t, "Close", r.Close(), 2, api.Done, 0)
	wantPut(t, r, 1, 1, api.Closed, 0)
	wantRun(t, "Drain", r.Drain(), 6, api.Done, 8)
	wantRun(t, "Drain", r.Drain(), 6, api.Done, 9)
	wantRun(t, "Drain", r.Drain(), 2, api.Ended, 0)
}

// P3.1
func TestSizeAndMake(t *testing.T) {
	trial.Layout{
		Most:  api.MaxSlots,
		Cells: func(slots int) []uint64 { return make([]uint64, 2+2*slots) },
		Size:  Size,
		Make: func(m *cells.Mem, base, slots int) (bool, api.Errno) {
			r, e := Make(m, base, slots)
			return r != nil, e
		},
	}.Hold(t)
}

// P3.1, P3.2, P3.3, P3.4: the cells of a ring that doesn't begin at 0.
func TestRingBesideOthers(t *testing.T) {
	m := cells.New(12)
	for i := range m.Len() {
		m.Store(i, 9)
	}
	r := laid(t, m, 3, 3)
	wantPut(t, r, 70, 5, api.Done, 0)
	wantPut(t, r, 71, 5, api.Done, 1)
	wantPut(t, r, 72, 5, api.Done, 2)
	trial.Cells(t, m, 9, 9, 9, 3, 0, 1, 70, 1, 71, 1, 72, 9)
	wantRun(t, "Take", r.Take(), 5, api.Done, 70)
	trial.Cells(t, m, 9, 9, 9, 3, 1, 2, 70, 1, 71, 1, 72, 9)
	wantPut(t, r, 73, 5, api.Done, 3)
	wantRun(t, "Close", r.Close(), 2, api.Done, 0)
	trial.Cells(t, m, 9, 9, 9, edge+4, 1, 3, 73, 1, 71, 1, 72, 9)
}

// P3.1: what a ring is lies in its cells alone.
func TestRingIsLaidOutAnew(t *testing.T) {
	m, r := fresh(t, 2)
	wantPut(t, r, 7, 5, api.Done, 0)
	wantPut(t, r, 8, 5, api.Done, 1)
	wantRun(t, "Take", r.Take(), 5, api.Done, 7)
	wantRun(t, "Close", r.Close(), 2, api.Done, 0)
	again := laid(t, m, 0, 2)
	trial.Cells(t, m, 0, 0, 0, 0, 0, 0)
	wantPut(t, again, 5, 5, api.Done, 0)
	wantRun(t, "Take", r.Take(), 5, api.Done, 5)
}

// P3.2
func TestPutStepByStep(t *testing.T) {
	m, r := holding(t, 5, 3, 6, 70, 4, 71) // two slots; ticket 5 is of round 2, and its slot waits for it
	o := r.Put(9)
	trial.Steps(t, m, o,
		[]uint64{5, 3, 6, 70, 4, 71},
		[]uint64{5, 3, 6, 70, 4, 71},
		[]uint64{6, 3, 6, 70, 4, 71},
		[]uint64{6, 3, 6, 70, 4, 9},
		[]uint64{6, 3, 6, 70, 5, 9})
	wantTold(t, "Put", o, api.Done, 0, 5)
}

// P3.2
func TestPutIntoAClosedRing(t *testing.T) {
	for _, tail := range []uint64{edge, edge + 1, edge + 77, math.MaxUint64} {
		m, r := holding(t, tail, 0, 0, 0)
		o := r.Put(9)
		trial.Steps(t, m, o, []uint64{tail, 0, 0, 0})
		wantTold(t, "Put", o, api.Closed, 0, 0)
	}
}

// P3.2
func TestPutIntoAFullRing(t *testing.T) {
	for _, c := range []struct{ tail, turn uint64 }{
		{2, 0}, {2, 1}, {2, 3}, {1, 0}, {1, 1}, {edge - 1, 0}, {edge - 1, math.MaxUint64 - 2},
	} {
		held := []uint64{c.tail, 0, c.turn, 7}
		m, r := holding(t, held...)
		o := r.Put(9)
		trial.Steps(t, m, o, held, held)
		wantTold(t, "Put", o, api.Full, 0, 0)
	}
}

// P3.2: the turn is that of the ticket's slot.
func TestPutLooksAtItsTicketsSlot(t *testing.T) {
	for slot := range uint64(3) {
		held := []uint64{3 + slot, 0, 1, 70, 1, 71, 1, 72}
		_, r := holding(t, held...)
		wantPut(t, r, 9, 2, api.Full, 0)
		held[2+2*slot] = 2
		m, r := holding(t, held...)
		wantPut(t, r, 9, 5, api.Done, 3+slot)
		held[0], held[2+2*slot], held[3+2*slot] = 4+slot, 3, 9
		trial.Cells(t, m, held...)
	}
}

// P3.2: a turn that is ahead sends it back, and so again and again.
func TestPutGoesOnAtItsBeginningWhenTheTurnIsAhead(t *testing.T) {
	m, r := holding(t, 4, 4, 9, 70) // one slot; ticket 4 waits at 8
	o := r.Put(5)
	for range 10 {
		for range 2 {
			touched := m.Touched()
			if o.Step() || m.Touched() != touched+1 {
				t.Fatal("a Put whose slot's turn is ahead has ended, or touched more than one cell")
			}
			trial.Cells(t, m, 4, 4, 9, 70)
		}
	}
	m.Store(2, 10)
	m.Store(0, 5) // its next step loads the tail anew
	trial.Steps(t, m, o,
		[]uint64{5, 4, 10, 70},
		[]uint64{5, 4, 10, 70},
		[]uint64{6, 4, 10, 70},
		[]uint64{6, 4, 10, 5},
		[]uint64{6, 4, 11, 5})
	wantTold(t, "Put", o, api.Done, 0, 5)
}

// P3.2: a tail that is another one by now sends it back.
func TestPutGoesOnAtItsBeginningWhenTheTailIsAnotherOne(t *testing.T) {
	_, r := fresh(t, 3)
	late := r.Put(7)
	late.Step()
	late.Step()
	wantPut(t, r, 8, 5, api.Done, 0)
	if n := trial.Run(t, late); n != 6 {
		t.Errorf("%d steps behind the second one", n)
	}
	wantTold(t, "Put", late, api.Done, 0, 1)

	_, r = fresh(t, 1)
	late = r.Put(7)
	late.Step()
	late.Step()
	wantPut(t, r, 8, 5, api.Done, 0)
	if n := trial.Run(t, late); n != 3 { // the Swap, the tail, the turn
		t.Errorf("%d steps behind the second one", n)
	}
	wantTold(t, "Put", late, api.Full, 0, 0)

	_, r = fresh(t, 1)
	late = r.Put(7)
	late.Step()
	late.Step()
	wantRun(t, "Close", r.Close(), 2, api.Done, 0)
	if n := trial.Run(t, late); n != 2 { // the Swap, the tail
		t.Errorf("%d steps behind the second one", n)
	}
	wantTold(t, "Put", late, api.Closed, 0, 0)
}

// P3.2: who has drawn its ticket goes in, even if the ring is closed then.
func TestPutThatHasItsTicketGoesIn(t *testing.T) {
	m, r := fresh(t, 1)
	o := r.Put(7)
	for range 3 {
		o.Step()
	}
	wantRun(t, "Close", r.Close(), 2, api.Done, 0)
	wantRun(t, "Drain", r.Drain(), 3, api.None, 0)
	if n := trial.Run(t, o); n != 2 {
		t.Errorf("%d steps behind the third one", n)
	}
	wantTold(t, "Put", o, api.Done, 0, 0)
	trial.Cells(t, m, edge+1, 0, 1, 7)
}

// P3.2: the last ticket that there is.
func TestPutOfTheGreatestTicket(t *testing.T) {
	m, r := holding(t, edge-1, 0, math.MaxUint64-1, 7) // one slot, so that 2r is greatest
	wantPut(t, r, 8, 5, api.Done, edge-1)
	trial.Cells(t, m, edge, 0, math.MaxUint64, 8)
	wantPut(t, r, 8, 1, api.Closed, 0)
}

// P3.2, P3.3: all values go in and out as they are.
func TestValuesOfAllSizes(t *testing.T) {
	_, r := fresh(t, 2)
	for _, v := range []uint64{0, 1, edge - 1, edge, edge + 1, math.MaxUint64} {
		o := r.Put(v)
		trial.Run(t, o)
		if o.Outcome() != api.Done {
			t.Fatalf("Put(%d): %d", v, o.Outcome())
		}
		wantRun(t, "Take", r.Take(), 5, api.Done, v)
	}
}

// P3.3
func TestTakeStepByStep(t *testing.T) {
	m, r := holding(t, 6, 3, 4, 70, 3, 71) // two slots; ticket 3 is of round 1, and its slot has its value
	o := r.Take()
	trial.Steps(t, m, o,
		[]uint64{6, 3, 4, 70, 3, 71},
		[]uint64{6, 3, 4, 70, 3, 71},
		[]uint64{6, 3, 4, 70, 3, 71},
		[]uint64{6, 3, 4, 70, 4, 71},
		[]uint64{6, 4, 4, 70, 4, 71})
	wantTold(t, "Take", o, api.Done, 71, 0)
}

// P3.3
func TestTakeLoadsTheValueAtItsThirdStep(t *testing.T) {
	m, r := holding(t, 1, 0, 1, 70)
	o := r.Take()
	o.Step()
	o.Step()
	m.Store(3, 71)
	o.Step()
	m.Store(3, 72)
	wantRun(t, "Take", o, 2, api.Done, 71)
}

// P3.3: each turn but the one that tells of a value.
func TestTakeOfNothing(t *testing.T) {
	for _, turn := range []uint64{0, 1, 2, 3, 4, 6, 7, edge, edge + 5, math.MaxUint64} {
		held := []uint64{9, 2, turn, 70} // one slot; ticket 2 is there at 5
		m, r := holding(t, held...)
		o := r.Take()
		trial.Steps(t, m, o, held, held)
		wantTold(t, "Take", o, api.None, 0, 0)
		o = r.Look()
		trial.Steps(t, m, o, held, held)
		wantTold(t, "Look", o, api.None, 0, 0)
		o = r.Drain()
		trial.Steps(t, m, o, held, held, held)
		wantTold(t, "Drain", o, api.None, 0, 0)
	}
}

// P3.3: a Take asks for no tail.
func TestTakeOfAnEndedRing(t *testing.T) {
	_, r := holding(t, edge, 0, 0, 0)
	wantRun(t, "Take", r.Take(), 2, api.None, 0)
	_, r = holding(t, edge, 0, 1, 70)
	wantRun(t, "Take", r.Take(), 5, api.Done, 70)
}

// P3.3
func TestDrainStepByStep(t *testing.T) {
	for _, tail := range []uint64{4, 3, edge + 4, edge + 2, edge} {
		m, r := holding(t, tail, 3, 4, 70, 3, 71)
		o := r.Drain()
		trial.Steps(t, m, o,
			[]uint64{tail, 3, 4, 70, 3, 71},
			[]uint64{tail, 3, 4, 70, 3, 71},
			[]uint64{tail, 3, 4, 70, 3, 71},
			[]uint64{tail, 3, 4, 70, 3, 71},
			[]uint64{tail, 3, 4, 70, 4, 71},
			[]uint64{tail, 4, 4, 70, 4, 71})
		wantTold(t, "Drain", o, api.Done, 71, 0)
	}
}

// P3.3
func TestDrainOfAnEndedRing(t *testing.T) {
	for _, head := range []uint64{0, 1, 3, 77, edge - 1, edge, edge + 3, math.MaxUint64} { // beyond 2^63 the sum wraps
		held := []uint64{head + edge, head, 1, 70, 1, 71}
		m, r := holding(t, held...)
		o := r.Drain()
		trial.Steps(t, m, o, held, held)
		wantTold(t, "Drain", o, api.Ended, 0, 0)
	}
}

// P3.3: the tail is loaded ahead of the head.
func TestDrainLoadsTheTailFirst(t *testing.T) {
	_, r := fresh(t, 1)
	o := r.Drain()
	o.Step()
	wantRun(t, "Close", r.Close(), 2, api.Done, 0)
	if n := trial.Run(t, o); n != 2 { // it has seen the tail of a ring that was open
		t.Errorf("%d steps behind the first one", n)
	}
	wantTold(t, "Drain", o, api.None, 0, 0)
}

// P3.3
func TestLookTakesNothing(t *testing.T) {
	held := []uint64{6, 3, 4, 70, 3, 71}
	m, r := holding(t, held...)
	for range 2 {
		o := r.Look()
		trial.Steps(t, m, o, held, held)
		wantTold(t, "Look", o, api.Done, 0, 0)
	}
	wantRun(t, "Take", r.Take(), 5, api.Done, 71)
}

// P3.3: numbers are those of 64 bits.
func TestHeadsWrap(t *testing.T) {
	// One slot: ticket 2^64 - 1 is of the round of that number, and its slot has it at 2^64 - 1.
	m, r := holding(t, 0, math.MaxUint64, math.MaxUint64, 70)
	wantRun(t, "Look", r.Look(), 2, api.Done, 0)
	wantRun(t, "Take", r.Take(), 5, api.Done, 70)
	trial.Cells(t, m, 0, 0, 0, 70)
	m, r = holding(t, 9, edge+3, 7, 70)
	wantRun(t, "Drain", r.Drain(), 6, api.Done, 70)
	trial.Cells(t, m, 9, edge+4, 8, 70)
	// Three slots: 2^64 - 1 is a multiple of three.
	m, r = holding(t, 0, math.MaxUint64, 0xAAAAAAAAAAAAAAAB, 70, 5, 71, 5, 72)
	wantRun(t, "Take", r.Take(), 5, api.Done, 70)
	trial.Cells(t, m, 0, 0, 0xAAAAAAAAAAAAAAAC, 70, 5, 71, 5, 72)
}

// P3.4
func TestCloseStepByStep(t *testing.T) {
	for _, tail := range []uint64{0, 1, 77, edge - 1} {
		m, r := holding(t, tail, 3, 5, 70)
		o := r.Close()
		trial.Steps(t, m, o, []uint64{tail, 3, 5, 70}, []uint64{tail + edge, 3, 5, 70})
		wantTold(t, "Close", o, api.Done, 0, 0)
	}
}

// P3.4
func TestCloseOfAClosedRing(t *testing.T) {
	for _, tail := range []uint64{edge, edge + 1, math.MaxUint64} {
		m, r := holding(t, tail, 3, 5, 70)
		o := r.Close()
		trial.Steps(t, m, o, []uint64{tail, 3, 5, 70})
		wantTold(t, "Close", o, api.Done, 0, 0)
	}
}

// P3.4
func TestCloseGoesOnAtItsBeginning(t *testing.T) {
	m, r := fresh(t, 4)
	o := r.Close()
	for ticket := range uint64(3) {
		o.Step()
		wantPut(t, r, 7, 5, api.Done, ticket)
		if o.Step() {
			t.Fatal("a Close whose Swap is false is over")
		}
		if m.Peek(0) != ticket+1 {
			t.Fatalf("the tail is %d", m.Peek(0))
		}
	}
	wantRun(t, "Close", o, 2, api.Done, 0)
	if m.Peek(0) != edge+3 {
		t.Errorf("the tail is %d", m.Peek(0))
	}
	a, b := laid(t, m, 0, 4).Close(), r.Close()
	a.Step()
	b.Step()
	wantRun(t, "Close", a, 1, api.Done, 0)
	wantRun(t, "Close", b, 2, api.Done, 0) // the Swap, and a tail that is closed
	if m.Peek(0) != edge {
		t.Errorf("the tail is %d", m.Peek(0))
	}
}

// P3.5
func TestNothingIsToldAheadOfTheOutcome(t *testing.T) {
	for _, c := range []struct {
		name  string
		begin func(*Ring) *Op
		steps int
	}{
		{"Put", func(r *Ring) *Op { return r.Put(7) }, 5},
		{"Take", (*Ring).Take, 5},
		{"Drain", (*Ring).Drain, 6},
		{"Look", (*Ring).Look, 2},
		{"Close", (*Ring).Close, 2},
	} {
		_, r := holding(t, 6, 5, 4, 70, 4, 71, 3, 72) // three slots, of which the last one has a value
		o := c.begin(r)
		for i := range c.steps {
			wantTold(t, c.name, o, api.Pending, 0, 0)
			if over := o.Step(); over != (i == c.steps-1) {
				t.Errorf("%s: over %t at step %d", c.name, over, i+1)
			}
		}
		if !o.Over() || o.Outcome() != api.Done {
			t.Errorf("%s: outcome %d", c.name, o.Outcome())
		}
	}
}

// P3.5
func TestStepOfOneThatIsOverDoesNothing(t *testing.T) {
	m, r := fresh(t, 1)
	put, full, take, look, drain, closing := r.Put(7), r.Put(8), r.Take(), r.Look(), r.Drain(), r.Close()
	trial.Run(t, put)
	trial.Run(t, full)
	trial.Run(t, look)
	trial.Run(t, take)
	trial.Run(t, closing)
	trial.Run(t, drain)
	again := r.Put(9)
	trial.Run(t, again)
	laid(t, m, 0, 1) // so that an access too many would tell another thing
	held, touched := m.All(), m.Touched()
	for _, c := range []struct {
		o       *Op
		outcome int
		value   uint64
	}{{put, api.Done, 0}, {full, api.Full, 0}, {take, api.Done, 7}, {look, api.Done, 0}, {drain, api.Ended, 0}, {closing, api.Done, 0}, {again, api.Closed, 0}} {
		for range 7 {
			if !c.o.Step() {
				t.Error("an operation that was over is over no more")
			}
		}
		wantTold(t, "an operation that is over", c.o, c.outcome, c.value, 0)
	}
	if m.Touched() != touched {
		t.Errorf("%d accesses", m.Touched()-touched)
	}
	trial.Cells(t, m, held...)
}

// P3.5: an operation that isn't stepped does nothing, and its calls touch nothing.
func TestOperationsBeginWithTheirFirstStep(t *testing.T) {
	m, r := fresh(t, 1)
	touched := m.Touched()
	first, closing, take := r.Put(7), r.Close(), r.Take()
	if m.Touched() != touched {
		t.Error("an operation has touched the memory ahead of its first step")
	}
	wantRun(t, "Close", closing, 2, api.Done, 0)
	trial.Run(t, first)
	wantTold(t, "Put", first, api.Closed, 0, 0)
	wantRun(t, "Take", take, 2, api.None, 0)
}

// Rule 6: two rings in two memories, and two that share one.
func TestRingsAreApart(t *testing.T) {
	m := cells.New(20)
	a, b := laid(t, m, 0, 2), laid(t, m, 6, 3)
	other, c := fresh(t, 2)
	wantPut(t, a, 7, 5, api.Done, 0)
	wantRun(t, "Take", b.Take(), 2, api.None, 0)
	wantRun(t, "Take", c.Take(), 2, api.None, 0)
	wantPut(t, b, 8, 5, api.Done, 0)
	wantPut(t, c, 7, 5, api.Done, 0)
	if !slices.Equal(m.All()[:6], other.All()) {
		t.Errorf("the same was done: %v, %v", m.All()[:6], other.All())
	}
	wantRun(t, "Close", b.Close(), 2, api.Done, 0)
	wantPut(t, a, 9, 5, api.Done, 1)
	wantRun(t, "Take", a.Take(), 5, api.Done, 7)
	wantRun(t, "Drain", b.Drain(), 6, api.Done, 8)
	wantRun(t, "Drain", b.Drain(), 2, api.Ended, 0)
}

// Rule 1: all numbers in all cells.
func TestStepsEndWhateverTheCellsHold(t *testing.T) {
	odd := []uint64{0, 1, 2, 3, edge - 1, edge, edge + 1, math.MaxUint64 - 1, math.MaxUint64}
	for _, tail := range odd {
		for _, head := range odd {
			for _, turn := range odd {
				held := []uint64{tail, head, turn, 7, turn, 8, turn, 9}
				_, r := holding(t, held...)
				for _, o := range []*Op{r.Put(5), r.Take(), r.Drain(), r.Look(), r.Close()} {
					for range 9 {
						o.Step()
					}
				}
			}
		}
	}
}
