package deque

import (
	"math"
	"slices"
	"testing"

	"troupe/api"
	"troupe/cells"
	"troupe/trial"
)

// fresh makes a deque in a memory that has no other cell.
func fresh(t *testing.T, slots int) (*cells.Mem, *Deque) {
	t.Helper()
	m := cells.New(Size(slots))
	return m, laid(t, m, 0, slots)
}

func laid(t *testing.T, m *cells.Mem, base, slots int) *Deque {
	t.Helper()
	d, e := Make(m, base, slots)
	if d == nil || e != api.OK {
		t.Fatalf("Make(%d cells, %d, %d) = %v, %d", m.Len(), base, slots, d, e)
	}
	return d
}

// holding makes a memory that holds these numbers, and the deque in it, which thus is as it never may have become.
func holding(t *testing.T, held ...uint64) (*cells.Mem, *Deque) {
	t.Helper()
	m, d := fresh(t, len(held)-2)
	for i, v := range held {
		m.Store(i, v)
	}
	return m, d
}

func wantTold(t *testing.T, name string, o *Op, outcome int, value uint64) {
	t.Helper()
	if o.Over() != (outcome != api.Pending) || o.Outcome() != outcome || o.Value() != value {
		t.Errorf("%s: over %t, outcome %d, value %d, want outcome %d, value %d", name, o.Over(), o.Outcome(), o.Value(), outcome, value)
	}
}

// wantRun steps o to its end, from wherever it stands.
func wantRun(t *testing.T, name string, o *Op, steps, outcome int, value uint64) {
	t.Helper()
	if n := trial.Run(t, o); n != steps {
		t.Errorf("%s: %d steps, want %d", name, n, steps)
	}
	wantTold(t, name, o, outcome, value)
}

func stepped(o *Op, steps int) *Op {
	for range steps {
		o.Step()
	}
	return o
}

func TestExamplesOfTheChapter(t *testing.T) {
	m, d := fresh(t, 2)
	trial.Cells(t, m, 1, 1, 0, 0)
	wantRun(t, "Push(7)", d.Push(7), 4, api.Done, 0)
	wantRun(t, "Push(8)", d.Push(8), 4, api.Done, 0)
	wantRun(t, "Push(9)", d.Push(9), 2, api.Full, 0)
	wantRun(t, "Steal", d.Steal(), 4, api.Done, 7)
	wantRun(t, "Push(9)", d.Push(9), 4, api.Done, 0)
	wantRun(t, "Pop", d.Pop(), 4, api.Done, 9)
	wantRun(t, "Pop", d.Pop(), 6, api.Done, 8)
	wantRun(t, "Pop", d.Pop(), 4, api.None, 0)
	wantRun(t, "Steal", d.Steal(), 2, api.None, 0)
}

// P4.1
func TestSizeAndMake(t *testing.T) {
	trial.Layout{
		Most:  api.MaxSlots,
		Cells: func(slots int) []uint64 { return append([]uint64{1, 1}, make([]uint64, slots)...) },
		Size:  Size,
		Make: func(m *cells.Mem, base, slots int) (bool, api.Errno) {
			d, e := Make(m, base, slots)
			return d != nil, e
		},
	}.Hold(t)
}

// P4.1: what a deque is lies in its cells alone.
func TestDequeIsLaidOutAnew(t *testing.T) {
	m, d := fresh(t, 2)
	wantRun(t, "Push", d.Push(7), 4, api.Done, 0)
	wantRun(t, "Push", d.Push(8), 4, api.Done, 0)
	wantRun(t, "Steal", d.Steal(), 4, api.Done, 7)
	again := laid(t, m, 0, 2)
	trial.Cells(t, m, 1, 1, 0, 0)
	wantRun(t, "Push", again.Push(5), 4, api.Done, 0)
	wantRun(t, "Pop", d.Pop(), 6, api.Done, 5)
}

// P4.1 to P4.4: the cells of a deque that doesn't begin at 0.
func TestDequeBesideOthers(t *testing.T) {
	m := cells.New(8)
	for i := range m.Len() {
		m.Store(i, 9)
	}
	d := laid(t, m, 2, 3)
	for v := range uint64(3) {
		wantRun(t, "Push", d.Push(70+v), 4, api.Done, 0)
	}
	trial.Cells(t, m, 9, 9, 1, 4, 72, 70, 71, 9)
	wantRun(t, "Steal", d.Steal(), 4, api.Done, 70)
	wantRun(t, "Push", d.Push(73), 4, api.Done, 0)
	trial.Cells(t, m, 9, 9, 2, 5, 72, 73, 71, 9)
	wantRun(t, "Pop", d.Pop(), 4, api.Done, 73)
	wantRun(t, "Pop", d.Pop(), 4, api.Done, 72)
	wantRun(t, "Pop", d.Pop(), 6, api.Done, 71)
	trial.Cells(t, m, 9, 9, 3, 3, 72, 73, 71, 9)
}

// P4.2
func TestPushStepByStep(t *testing.T) {
	m, d := holding(t, 4, 5, 70, 71, 72) // 5's slot is the last one
	o := d.Push(8)
	trial.Steps(t, m, o,
		[]uint64{4, 5, 70, 71, 72},
		[]uint64{4, 5, 70, 71, 72},
		[]uint64{4, 5, 70, 71, 8},
		[]uint64{4, 6, 70, 71, 8})
	wantTold(t, "Push", o, api.Done, 0)
}

// P4.2: it is full at c, and above; a bottom below the top is far above it, since numbers wrap.
func TestPushOntoAFullDeque(t *testing.T) {
	for _, c := range []struct{ top, bottom uint64 }{
		{1, 4}, {7, 10}, {0, 3}, {1, 5}, {1, 1 << 63}, {0, math.MaxUint64}, {math.MaxUint64, 2}, {3, 2}, {3, 0}, {math.MaxUint64, math.MaxUint64 - 1},
	} {
		held := []uint64{c.top, c.bottom, 70, 71, 72}
		m, d := holding(t, held...)
		o := d.Push(8)
		trial.Steps(t, m, o, held, held)
		wantTold(t, "Push", o, api.Full, 0)
	}
}

// P4.2
func TestPushWhileThereIsRoom(t *testing.T) {
	for _, c := range []struct{ top, bottom uint64 }{
		{1, 1}, {1, 2}, {1, 3}, {2, 4}, {9, 9}, {math.MaxUint64, 1}, {math.MaxUint64, math.MaxUint64}, {math.MaxUint64 - 1, 0},
	} {
		m, d := holding(t, c.top, c.bottom, 70, 71, 72)
		wantRun(t, "Push", d.Push(8), 4, api.Done, 0)
		want := []uint64{c.top, c.bottom + 1, 70, 71, 72}
		want[2+c.bottom%3] = 8
		trial.Cells(t, m, want...)
	}
}

// P4.2: what it has loaded counts, whatever the cells hold by then.
func TestPushKeepsTheBottomThatItLoaded(t *testing.T) {
	m, d := holding(t, 4, 5, 70, 71, 72)
	o := stepped(d.Push(8), 1)
	m.Store(1, 6)
	trial.Steps(t, m, o,
		[]uint64{4, 6, 70, 71, 72},
		[]uint64{4, 6, 70, 71, 8},
		[]uint64{4, 6, 70, 71, 8})
	o = stepped(d.Push(9), 2)
	m.Store(0, 1) // it would be full
	m.Store(1, 7)
	trial.Steps(t, m, o,
		[]uint64{1, 7, 9, 71, 8},
		[]uint64{1, 7, 9, 71, 8})
	wantTold(t, "Push", o, api.Done, 0)
}

// P4.2: the top is loaded behind the bottom.
func TestPushIsFullByTheTopOfItsSecondStep(t *testing.T) {
	_, d := holding(t, 1, 3, 70, 71)
	o := stepped(d.Push(8), 1)
	wantRun(t, "Steal", d.Steal(), 4, api.Done, 71)
	wantRun(t, "Push", o, 3, api.Done, 0)

	m, d := holding(t, 2, 3, 70, 71)
	o = stepped(d.Push(8), 1)
	m.Store(0, 1)
	wantRun(t, "Push", o, 1, api.Full, 0)
}

// P4.3
func TestPopOfOneOfSeveralStepByStep(t *testing.T) {
	m, d := holding(t, 4, 6, 70, 71, 72)
	o := d.Pop()
	trial.Steps(t, m, o,
		[]uint64{4, 6, 70, 71, 72},
		[]uint64{4, 5, 70, 71, 72},
		[]uint64{4, 5, 70, 71, 72},
		[]uint64{4, 5, 70, 71, 72})
	wantTold(t, "Pop", o, api.Done, 72)
}

// P4.3
func TestPopOfTheLastOneStepByStep(t *testing.T) {
	m, d := holding(t, 4, 5, 70, 71, 72)
	o := d.Pop()
	trial.Steps(t, m, o,
		[]uint64{4, 5, 70, 71, 72},
		[]uint64{4, 4, 70, 71, 72},
		[]uint64{4, 4, 70, 71, 72},
		[]uint64{4, 4, 70, 71, 72},
		[]uint64{5, 4, 70, 71, 72},
		[]uint64{5, 5, 70, 71, 72})
	wantTold(t, "Pop", o, api.Done, 71)
}

// P4.3: the swap that is false.
func TestPopLosesTheLastOneToAThief(t *testing.T) {
	m, d := holding(t, 4, 5, 70, 71, 72)
	thief := stepped(d.Steal(), 2)
	o := stepped(d.Pop(), 4)
	wantRun(t, "Steal", thief, 2, api.Done, 71)
	trial.Steps(t, m, o,
		[]uint64{5, 4, 70, 71, 72},
		[]uint64{5, 5, 70, 71, 72})
	wantTold(t, "Pop", o, api.None, 0)
}

// P4.3
func TestPopOfNothingStepByStep(t *testing.T) {
	for _, c := range []struct{ top, bottom uint64 }{
		{1, 1}, {5, 5}, {6, 5}, {math.MaxUint64, 5}, {math.MaxUint64, 1}, {math.MaxUint64, math.MaxUint64}, {1 << 63, 1 << 63}, {1 << 63, 1<<63 - 1},
	} {
		m, d := holding(t, c.top, c.bottom, 70, 71, 72)
		o := d.Pop()
		trial.Steps(t, m, o,
			[]uint64{c.top, c.bottom, 70, 71, 72},
			[]uint64{c.top, c.bottom - 1, 70, 71, 72},
			[]uint64{c.top, c.bottom - 1, 70, 71, 72},
			[]uint64{c.top, c.bottom, 70, 71, 72})
		wantTold(t, "Pop", o, api.None, 0)
	}
}

// P4.3: each slot, and numbers that wrap: b - 1 is the greatest one, if b is 0.
func TestPopLoadsTheSlotOfItsNumber(t *testing.T) {
	for _, c := range []struct {
		top, bottom uint64
		steps       int
		value       uint64
	}{
		{1, 7, 4, 70}, {1, 8, 4, 71}, {1, 9, 4, 72}, {6, 7, 6, 70}, {7, 8, 6, 71}, {8, 9, 6, 72},
		{1 << 62, 1 << 63, 4, 71}, {0, 0, 4, 70}, {5, 0, 4, 70}, {math.MaxUint64, 0, 6, 70}, {math.MaxUint64 - 1, math.MaxUint64, 6, 72},
	} {
		m, d := holding(t, c.top, c.bottom, 70, 71, 72)
		wantRun(t, "Pop", d.Pop(), c.steps, api.Done, c.value)
		if c.steps == 6 {
			trial.Cells(t, m, c.top+1, c.bottom, 70, 71, 72)
		} else {
			trial.Cells(t, m, c.top, c.bottom-1, 70, 71, 72)
		}
	}
}

// P4.3: each number is that of the step that loads it.
func TestPopLoadsStepByStep(t *testing.T) {
	m, d := holding(t, 4, 6, 70, 71, 72)
	o := stepped(d.Pop(), 1)
	m.Store(1, 9)
	o.Step()
	trial.Cells(t, m, 4, 5, 70, 71, 72)
	m.Store(1, 9)
	m.Store(0, 5)
	o.Step()
	m.Store(4, 73)
	o.Step()
	m.Store(4, 74)
	o.Step()
	trial.Cells(t, m, 6, 9, 70, 71, 74)
	wantRun(t, "Pop", o, 1, api.Done, 73)
	trial.Cells(t, m, 6, 6, 70, 71, 74)

	m, d = holding(t, 4, 6, 70, 71, 72)
	o = stepped(d.Pop(), 3)
	m.Store(0, 6)
	m.Store(1, 9)
	m.Store(4, 73)
	wantRun(t, "Pop", o, 1, api.Done, 73)
	trial.Cells(t, m, 6, 9, 70, 71, 73)
}

// P4.3: a top that comes back is as one that never went.
func TestPopSwapsTheTopThatItLoaded(t *testing.T) {
	for _, c := range []struct {
		top     uint64
		outcome int
		value   uint64
	}{{4, api.Done, 71}, {3, api.None, 0}, {5, api.None, 0}, {0, api.None, 0}} {
		m, d := holding(t, 4, 5, 70, 71, 72)
		o := stepped(d.Pop(), 3)
		m.Store(0, 9)
		o.Step()
		m.Store(0, c.top)
		wantRun(t, "Pop", o, 2, c.outcome, c.value)
		want := c.top
		if c.outcome == api.Done {
			want = 5
		}
		trial.Cells(t, m, want, 5, 70, 71, 72)
	}
}

// P4.4
func TestStealStepByStep(t *testing.T) {
	m, d := holding(t, 4, 6, 70, 71, 72)
	o := d.Steal()
	trial.Steps(t, m, o,
		[]uint64{4, 6, 70, 71, 72},
		[]uint64{4, 6, 70, 71, 72},
		[]uint64{4, 6, 70, 71, 72},
		[]uint64{5, 6, 70, 71, 72})
	wantTold(t, "Steal", o, api.Done, 71)
}

// P4.4
func TestStealOfNothing(t *testing.T) {
	for _, c := range []struct{ top, bottom uint64 }{
		{1, 1}, {1, 0}, {5, 5}, {6, 5}, {math.MaxUint64, 0}, {math.MaxUint64, math.MaxUint64}, {0, 0}, {1 << 63, 1<<63 - 1}, {1 << 63, 1},
	} {
		held := []uint64{c.top, c.bottom, 70, 71, 72}
		m, d := holding(t, held...)
		o := d.Steal()
		trial.Steps(t, m, o, held, held)
		wantTold(t, "Steal", o, api.None, 0)
	}
}

// P4.4: each slot.
func TestStealLoadsTheSlotOfTheTop(t *testing.T) {
	for _, c := range []struct{ top, bottom, value uint64 }{
		{6, 7, 70}, {7, 9, 71}, {8, 99, 72}, {0, math.MaxUint64, 70}, {math.MaxUint64 - 1, math.MaxUint64, 72}, {1<<63 - 1, 1 << 63, 71},
	} {
		m, d := holding(t, c.top, c.bottom, 70, 71, 72)
		wantRun(t, "Steal", d.Steal(), 4, api.Done, c.value)
		trial.Cells(t, m, c.top+1, c.bottom, 70, 71, 72)
	}
}

// P4.4: each number is that of the step that loads it.
func TestStealLoadsStepByStep(t *testing.T) {
	m, d := holding(t, 4, 4, 70, 71, 72)
	o := stepped(d.Steal(), 1)
	m.Store(0, 9)
	m.Store(1, 5)
	o.Step()
	m.Store(1, 0)
	m.Store(3, 73)
	o.Step()
	m.Store(3, 74)
	m.Store(0, 4)
	wantRun(t, "Steal", o, 1, api.Done, 73)
	trial.Cells(t, m, 5, 0, 70, 74, 72)

	m, d = holding(t, 4, 5, 70, 71, 72)
	o = stepped(d.Steal(), 1)
	m.Store(1, 4)
	wantRun(t, "Steal", o, 1, api.None, 0)
}

// P4.4
func TestStealIsLost(t *testing.T) {
	for _, top := range []uint64{5, 3, 0, math.MaxUint64} {
		m, d := holding(t, 4, 6, 70, 71, 72)
		o := stepped(d.Steal(), 3)
		m.Store(0, top)
		held := m.All()
		trial.Steps(t, m, o, held)
		wantTold(t, "Steal", o, api.Lost, 0)
	}
}

// P4.4, P4.6: of thieves that go on together the first one to swap is Done.
func TestThievesOfOne(t *testing.T) {
	m, d := fresh(t, 4)
	wantRun(t, "Push", d.Push(7), 4, api.Done, 0)
	wantRun(t, "Push", d.Push(8), 4, api.Done, 0)
	a, b, late := d.Steal(), d.Steal(), d.Steal()
	stepped(a, 3)
	stepped(b, 3)
	stepped(late, 1)
	wantRun(t, "the second thief", b, 1, api.Done, 7)
	wantRun(t, "the first thief", a, 1, api.Lost, 0)
	wantRun(t, "a thief that has loaded the top alone", late, 3, api.Lost, 0)
	wantRun(t, "Steal", d.Steal(), 4, api.Done, 8)
	trial.Cells(t, m, 3, 3, 0, 7, 8, 0)
}

// P4.4, P4.6: a slot that was pushed into anew isn't stolen by one that looked at it earlier.
func TestThiefOfASlotThatIsAnothersByNow(t *testing.T) {
	_, d := fresh(t, 1)
	wantRun(t, "Push", d.Push(7), 4, api.Done, 0)
	early, middle := stepped(d.Steal(), 3), stepped(d.Steal(), 2)
	wantRun(t, "Pop", d.Pop(), 6, api.Done, 7)
	wantRun(t, "Push", d.Push(8), 4, api.Done, 0)
	wantRun(t, "a thief that has loaded 7", early, 1, api.Lost, 0)
	wantRun(t, "a thief that loads 8", middle, 2, api.Lost, 0)
	wantRun(t, "Pop", d.Pop(), 6, api.Done, 8)
}

// P4.2, P4.3, P4.4: all values go in and out as they are.
func TestValuesOfAllSizes(t *testing.T) {
	_, d := fresh(t, 2)
	for _, v := range []uint64{0, 1, 1<<63 - 1, 1 << 63, math.MaxUint64} {
		wantRun(t, "Push", d.Push(v), 4, api.Done, 0)
		wantRun(t, "Push", d.Push(^v), 4, api.Done, 0)
		wantRun(t, "Steal", d.Steal(), 4, api.Done, v)
		wantRun(t, "Pop", d.Pop(), 6, api.Done, ^v)
	}
}

// P4.5
func TestNothingIsToldAheadOfTheOutcome(t *testing.T) {
	for _, c := range []struct {
		name    string
		begin   func(*Deque) *Op
		bottom  uint64
		steps   int
		outcome int
		value   uint64
	}{
		{"Push", func(d *Deque) *Op { return d.Push(7) }, 2, 4, api.Done, 0},
		{"Push that is Full", func(d *Deque) *Op { return d.Push(7) }, 3, 2, api.Full, 0},
		{"Pop", (*Deque).Pop, 3, 4, api.Done, 70},
		{"Pop of the last one", (*Deque).Pop, 2, 6, api.Done, 71},
		{"Pop of nothing", (*Deque).Pop, 1, 4, api.None, 0},
		{"Steal", (*Deque).Steal, 3, 4, api.Done, 71},
		{"Steal of nothing", (*Deque).Steal, 1, 2, api.None, 0},
	} {
		_, d := holding(t, 1, c.bottom, 70, 71)
		o := c.begin(d)
		for i := range c.steps {
			wantTold(t, c.name, o, api.Pending, 0)
			if over := o.Step(); over != (i == c.steps-1) {
				t.Errorf("%s: over %t at step %d", c.name, over, i+1)
			}
		}
		wantTold(t, c.name, o, c.outcome, c.value)
	}
}

// P4.5
func TestStepOfOneThatIsOverDoesNothing(t *testing.T) {
	m, d := fresh(t, 1)
	empty, none, push, full := d.Pop(), d.Steal(), d.Push(7), d.Push(8)
	thief, lost, pop := d.Steal(), d.Steal(), d.Pop()
	wantRun(t, "Pop", empty, 4, api.None, 0)
	wantRun(t, "Steal", none, 2, api.None, 0)
	wantRun(t, "Push", push, 4, api.Done, 0)
	wantRun(t, "Push", full, 2, api.Full, 0)
	stepped(lost, 3)
	wantRun(t, "Steal", thief, 4, api.Done, 7)
	wantRun(t, "Steal", lost, 1, api.Lost, 0)
	wantRun(t, "Push", d.Push(6), 4, api.Done, 0)
	wantRun(t, "Pop", pop, 6, api.Done, 6)
	wantRun(t, "Push", d.Push(5), 4, api.Done, 0) // so that an access too many would tell another thing
	held, touched := m.All(), m.Touched()
	for _, c := range []struct {
		o       *Op
		outcome int
		value   uint64
	}{{empty, api.None, 0}, {none, api.None, 0}, {push, api.Done, 0}, {full, api.Full, 0}, {thief, api.Done, 7}, {lost, api.Lost, 0}, {pop, api.Done, 6}} {
		for range 7 {
			if !c.o.Step() {
				t.Error("an operation that was over is over no more")
			}
		}
		wantTold(t, "an operation that is over", c.o, c.outcome, c.value)
	}
	if m.Touched() != touched {
		t.Errorf("%d accesses", m.Touched()-touched)
	}
	trial.Cells(t, m, held...)
}

// P4.5: an operation that isn't stepped does nothing, and its calls touch nothing.
func TestOperationsBeginWithTheirFirstStep(t *testing.T) {
	m, d := fresh(t, 1)
	touched := m.Touched()
	push, pop, steal := d.Push(7), d.Pop(), d.Steal()
	for _, o := range []*Op{push, pop, steal} {
		wantTold(t, "an operation that hasn't begun", o, api.Pending, 0)
	}
	if m.Touched() != touched {
		t.Error("an operation has touched the memory ahead of its first step")
	}
	wantRun(t, "Push", d.Push(8), 4, api.Done, 0)
	wantRun(t, "Steal", steal, 4, api.Done, 8)
	wantRun(t, "Push", push, 4, api.Done, 0)
	wantRun(t, "Pop", pop, 6, api.Done, 7)
}

// Rule 6: two deques in two memories, and two that share one.
func TestDequesAreApart(t *testing.T) {
	m := cells.New(9)
	a, b := laid(t, m, 0, 2), laid(t, m, 4, 3)
	other, c := fresh(t, 2)
	for _, d := range []*Deque{a, c} {
		wantRun(t, "Push", d.Push(7), 4, api.Done, 0)
		wantRun(t, "Push", d.Push(8), 4, api.Done, 0)
	}
	wantRun(t, "Pop", b.Pop(), 4, api.None, 0)
	wantRun(t, "Push", b.Push(9), 4, api.Done, 0)
	wantRun(t, "Steal", a.Steal(), 4, api.Done, 7)
	wantRun(t, "Steal", c.Steal(), 4, api.Done, 7)
	if !slices.Equal(m.All()[:4], other.All()) {
		t.Errorf("the same was done: %v, %v", m.All()[:4], other.All())
	}
	wantRun(t, "Steal", b.Steal(), 4, api.Done, 9)
	trial.Cells(t, m, 2, 3, 8, 7, 2, 2, 0, 9, 0)
}

// Rule 1: all numbers in all cells.
func TestOperationsEndWhateverTheCellsHold(t *testing.T) {
	odd := []uint64{0, 1, 2, 3, 4, 1<<63 - 1, 1 << 63, 1<<63 + 1, math.MaxUint64 - 1, math.MaxUint64}
	for _, top := range odd {
		for _, bottom := range odd {
			for slots := range 3 {
				held := append([]uint64{top, bottom}, odd[:slots+1]...)
				_, d := holding(t, held...)
				for _, o := range []*Op{d.Push(5), d.Steal(), d.Pop(), d.Pop()} {
					if n := trial.Run(t, o); n > 6 {
						t.Errorf("%d steps where the cells held %v", n, held)
					}
				}
			}
		}
	}
}
