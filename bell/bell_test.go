package bell_test

import (
	"math"
	"slices"
	"testing"

	"troupe/api"
	"troupe/bell"
	"troupe/cells"
	"troupe/trial"
)

const nobody = -1

// fresh makes a bell in a memory that has no other cell.
func fresh(t *testing.T, workers int) (*cells.Mem, *bell.Bell) {
	t.Helper()
	m := cells.New(bell.Size(workers))
	return m, laid(t, m, 0, workers)
}

func laid(t *testing.T, m *cells.Mem, base, workers int) *bell.Bell {
	t.Helper()
	b, e := bell.Make(m, base, workers)
	if b == nil || e != api.OK {
		t.Fatalf("Make(%d cells, %d, %d) = %v, %d", m.Len(), base, workers, b, e)
	}
	return b
}

// holding makes a memory that holds these numbers, and the bell in it, which thus is as it never may have become.
func holding(t *testing.T, held ...uint64) (*cells.Mem, *bell.Bell) {
	t.Helper()
	m, b := fresh(t, len(held))
	for w, v := range held {
		m.Store(w, v)
	}
	return m, b
}

func wantTold(t *testing.T, name string, o *bell.Op, outcome, who int) {
	t.Helper()
	if o.Over() != (outcome != api.Pending) || o.Outcome() != outcome || o.Who() != who {
		t.Errorf("%s: over %t, outcome %d, who %d, want outcome %d, who %d", name, o.Over(), o.Outcome(), o.Who(), outcome, who)
	}
}

// wantRun steps o to its end, from wherever it stands.
func wantRun(t *testing.T, name string, o *bell.Op, steps, outcome, who int) {
	t.Helper()
	if n := trial.Run(t, o); n != steps {
		t.Errorf("%s: %d steps, want %d", name, n, steps)
	}
	wantTold(t, name, o, outcome, who)
}

func wantSleep(t *testing.T, b *bell.Bell, w int) {
	t.Helper()
	wantRun(t, "Sleep", b.Sleep(w), 1, api.Done, nobody)
}

func stepped(o *bell.Op, steps int) *bell.Op {
	for range steps {
		o.Step()
	}
	return o
}

func TestExamplesOfTheChapter(t *testing.T) {
	m, b := fresh(t, 2)
	wantRun(t, "Ring", b.Ring(), 2, api.None, nobody)
	wantSleep(t, b, 1)
	wantRun(t, "Poll", b.Poll(1), 1, api.None, nobody)
	wantRun(t, "Ring", b.Ring(), 3, api.Rouse, 1)
	wantRun(t, "Poll", b.Poll(1), 1, api.Done, nobody)
	wantTold(t, "Sleep of no worker", b.Sleep(5), api.None, nobody)
	trial.Cells(t, m, 0, 0)
}

// P6.1
func TestSizeAndMake(t *testing.T) {
	trial.Layout{
		Most:  api.MaxWorkers,
		Cells: func(workers int) []uint64 { return make([]uint64, workers) },
		Size:  bell.Size,
		Make: func(m *cells.Mem, base, workers int) (bool, api.Errno) {
			b, e := bell.Make(m, base, workers)
			return b != nil, e
		},
	}.Hold(t)
}

// P6.1: what a bell is lies in its cells alone.
func TestBellIsLaidOutAnew(t *testing.T) {
	m, b := fresh(t, 2)
	wantSleep(t, b, 0)
	wantSleep(t, b, 1)
	again := laid(t, m, 0, 2)
	trial.Cells(t, m, 0, 0)
	wantRun(t, "Ring", b.Ring(), 2, api.None, nobody)
	wantSleep(t, again, 1)
	wantRun(t, "Ring", b.Ring(), 3, api.Rouse, 1)
}

// P6.1 to P6.3: the cells of a bell that doesn't begin at 0; those beside it hold what a sleeper's would.
func TestBellBesideOthers(t *testing.T) {
	m := cells.New(7)
	for i := range m.Len() {
		m.Store(i, 1)
	}
	b := laid(t, m, 3, 3)
	trial.Cells(t, m, 1, 1, 1, 0, 0, 0, 1)
	wantRun(t, "Ring", b.Ring(), 3, api.None, nobody)
	wantSleep(t, b, 2)
	wantSleep(t, b, 0)
	trial.Cells(t, m, 1, 1, 1, 1, 0, 1, 1)
	wantRun(t, "Up", b.Up(0), 1, api.Done, nobody)
	trial.Cells(t, m, 1, 1, 1, 0, 0, 1, 1)
	wantRun(t, "Poll", b.Poll(2), 1, api.None, nobody)
	wantRun(t, "Poll", b.Poll(1), 1, api.Done, nobody)
	wantRun(t, "Ring", b.Ring(), 4, api.Rouse, 2)
	trial.Cells(t, m, 1, 1, 1, 0, 0, 0, 1)
}

// P6.2: of each worker of each bell, whatever its cell holds.
func TestSleepUpAndPollOfEachWorker(t *testing.T) {
	for n := 1; n <= api.MaxWorkers; n++ {
		for w := range n {
			for _, v := range []uint64{0, 1, 2, 1 << 32, 1 << 63, math.MaxUint64} {
				held := slices.Repeat([]uint64{5}, n)
				held[w] = v
				polled := api.None
				if v == 0 {
					polled = api.Done
				}
				wantAlone(t, held, held, (*bell.Bell).Poll, w, polled)
				behind := slices.Clone(held)
				behind[w] = 1
				wantAlone(t, held, behind, (*bell.Bell).Sleep, w, api.Done)
				behind[w] = 0
				wantAlone(t, held, behind, (*bell.Bell).Up, w, api.Done)
			}
		}
	}
}

// wantAlone holds an operation of one worker's, and what the cells hold behind it.
func wantAlone(t *testing.T, held, behind []uint64, op func(*bell.Bell, int) *bell.Op, w, outcome int) {
	t.Helper()
	m, b := holding(t, held...)
	o := op(b, w)
	trial.Steps(t, m, o, behind)
	wantTold(t, "an operation of one worker's", o, outcome, nobody)
	if t.Failed() {
		t.Fatalf("worker %d, where the cells held %v", w, held)
	}
}

// P6.2: who is no worker, even where there is a cell for it, or one for a number that has wrapped.
func TestOperationsOfNoWorker(t *testing.T) {
	for n := 1; n <= api.MaxWorkers; n++ {
		m := cells.New(n + 4)
		b := laid(t, m, 2, n)
		held, touched := m.All(), m.Touched()
		for _, w := range []int{math.MinInt, math.MinInt + 1, -n - 1, -n, -2, -1, n, n + 1, 2 * n, api.MaxWorkers, api.MaxWorkers + 1, 1 << 32, math.MaxInt - 1, math.MaxInt} {
			for _, o := range []*bell.Op{b.Sleep(w), b.Up(w), b.Poll(w)} {
				wantTold(t, "an operation of no worker's", o, api.None, nobody)
				if !o.Step() || !o.Step() {
					t.Error("an operation of no worker's is over no more")
				}
				wantTold(t, "an operation of no worker's", o, api.None, nobody)
			}
		}
		if m.Touched() != touched {
			t.Errorf("%d accesses", m.Touched()-touched)
		}
		trial.Cells(t, m, held...)
	}
}

// rows calls what for each row of n numbers that stand in of.
func rows(n int, of []uint64, what func(row []uint64)) {
	row := make([]uint64, n)
	trial.EveryOrder(func(pick func(int) int) {
		for i := range row {
			row[i] = of[pick(len(of))]
		}
		what(row)
	})
}

// P6.3: all that cells can hold, as far as a Ring tells it apart.
func TestRingOfAllCells(t *testing.T) {
	ring := func(row []uint64) {
		m, b := holding(t, row...)
		o := b.Ring()
		behind := [][]uint64{}
		for range row {
			behind = append(behind, row)
		}
		w := slices.Index(row, 1)
		if w < 0 {
			trial.Steps(t, m, o, behind...)
			wantTold(t, "Ring", o, api.None, nobody)
		} else {
			last := slices.Clone(row)
			last[w] = 0
			trial.Steps(t, m, o, append(behind[:w+1], last)...)
			wantTold(t, "Ring", o, api.Rouse, w)
		}
		if t.Failed() {
			t.Fatalf("the cells held %v", row)
		}
	}
	for n := 1; n <= api.MaxWorkers; n++ {
		rows(n, []uint64{0, 1}, ring)
	}
	for n := 1; n <= 4; n++ {
		rows(n, []uint64{0, 1, 2, 1 << 32, 1<<63 + 1, math.MaxUint64}, ring)
	}
}

// P6.3: who was seen asleep and is no more isn't roused; it goes on behind that one.
func TestRingGoesOnWhenASleeperIsGone(t *testing.T) {
	for _, v := range []uint64{0, 2, math.MaxUint64} {
		for n := 1; n <= api.MaxWorkers; n++ {
			for w := range n {
				m, b := fresh(t, n)
				m.Store(w, 1)
				o := stepped(b.Ring(), w+1)
				m.Store(w, v)
				held := m.All()
				if over := trial.One(t, m, o); over != (w == n-1) { // the Swap
					t.Errorf("%d of %d workers: over %t", w, n, over)
				}
				for i := w + 1; i < n; i++ {
					if over := trial.One(t, m, o); over != (i == n-1) {
						t.Errorf("%d of %d workers, at %d: over %t", w, n, i, over)
					}
				}
				wantTold(t, "Ring", o, api.None, nobody)
				trial.Cells(t, m, held...)
			}
		}
	}
}

// P6.3: one who sleeps again by the Swap is roused: a Swap sees no difference.
func TestRingRousesOneWhoSleepsAgain(t *testing.T) {
	m, b := fresh(t, 2)
	wantSleep(t, b, 0)
	o := stepped(b.Ring(), 1)
	wantRun(t, "Up", b.Up(0), 1, api.Done, nobody)
	wantSleep(t, b, 0)
	wantRun(t, "Ring", o, 1, api.Rouse, 0)
	trial.Cells(t, m, 0, 0)
}

// P6.3: each worker is looked at once, at its time.
func TestRingLooksAtEachOnce(t *testing.T) {
	m, b := fresh(t, 3)
	o := stepped(b.Ring(), 1)
	wantSleep(t, b, 0) // behind the look at it
	wantRun(t, "Ring", o, 2, api.None, nobody)
	trial.Cells(t, m, 1, 0, 0)

	m, b = fresh(t, 3)
	o = stepped(b.Ring(), 2)
	wantSleep(t, b, 2) // ahead of the look at it
	wantRun(t, "Ring", o, 2, api.Rouse, 2)
	trial.Cells(t, m, 0, 0, 0)

	m, b = holding(t, 1, 0, 1)
	o = stepped(b.Ring(), 1)
	wantRun(t, "another Ring", b.Ring(), 2, api.Rouse, 0)
	m.Store(1, 1)
	wantRun(t, "Ring", o, 3, api.Rouse, 1) // the Swap that is false, and the look and the Swap at the next one
	trial.Cells(t, m, 0, 0, 1)
}

// P6.3: who is first among those who sleep is roused first, whoever lay down first.
func TestRingsRouseFromTheFirstWorkerOn(t *testing.T) {
	m, b := fresh(t, api.MaxWorkers)
	for _, w := range []int{7, 2, 5, 0} {
		wantSleep(t, b, w)
	}
	for _, w := range []int{0, 2, 5, 7} {
		wantRun(t, "Ring", b.Ring(), w+2, api.Rouse, w)
	}
	wantRun(t, "Ring", b.Ring(), 8, api.None, nobody)
	trial.Cells(t, m, 0, 0, 0, 0, 0, 0, 0, 0)
}

// P6.4
func TestNothingIsToldAheadOfTheOutcome(t *testing.T) {
	for _, c := range []struct {
		name         string
		o            func(*bell.Bell) *bell.Op
		sleeper      uint64 // what the last worker's cell holds
		steps        int
		outcome, who int
	}{
		{"Sleep", func(b *bell.Bell) *bell.Op { return b.Sleep(2) }, 0, 1, api.Done, nobody},
		{"Up", func(b *bell.Bell) *bell.Op { return b.Up(2) }, 1, 1, api.Done, nobody},
		{"Poll", func(b *bell.Bell) *bell.Op { return b.Poll(2) }, 0, 1, api.Done, nobody},
		{"Poll of a sleeper", func(b *bell.Bell) *bell.Op { return b.Poll(2) }, 1, 1, api.None, nobody},
		{"Ring", (*bell.Bell).Ring, 1, 4, api.Rouse, 2},
		{"Ring of nobody", (*bell.Bell).Ring, 0, 3, api.None, nobody},
	} {
		m, b := holding(t, 0, 0, c.sleeper)
		o := c.o(b)
		for i := range c.steps {
			wantTold(t, c.name, o, api.Pending, nobody)
			if over := trial.One(t, m, o); over != (i == c.steps-1) {
				t.Errorf("%s: over %t at step %d", c.name, over, i+1)
			}
		}
		wantTold(t, c.name, o, c.outcome, c.who)
	}
}

// P6.4
func TestStepOfOneThatIsOverDoesNothing(t *testing.T) {
	m, b := fresh(t, 2)
	none, sleep, asleep := b.Ring(), b.Sleep(1), b.Poll(1)
	rouse, awake, up := b.Ring(), b.Poll(1), b.Up(1)
	wantRun(t, "Ring", none, 2, api.None, nobody)
	wantRun(t, "Sleep", sleep, 1, api.Done, nobody)
	wantRun(t, "Poll", asleep, 1, api.None, nobody)
	wantRun(t, "Ring", rouse, 3, api.Rouse, 1)
	wantRun(t, "Poll", awake, 1, api.Done, nobody)
	wantRun(t, "Up", up, 1, api.Done, nobody)
	for _, held := range [][]uint64{{0, 0}, {1, 1}} { // so that an access too many would tell another thing
		for w, v := range held {
			m.Store(w, v)
		}
		for _, c := range []struct {
			o            *bell.Op
			outcome, who int
		}{{none, api.None, nobody}, {sleep, api.Done, nobody}, {asleep, api.None, nobody}, {rouse, api.Rouse, 1}, {awake, api.Done, nobody}, {up, api.Done, nobody}} {
			for range 5 {
				if !trial.One(t, m, c.o) {
					t.Error("an operation that was over is over no more")
				}
			}
			wantTold(t, "an operation that is over", c.o, c.outcome, c.who)
		}
		trial.Cells(t, m, held...)
	}
}

// P6.4: an operation that isn't stepped does nothing, and its calls touch nothing.
func TestOperationsBeginWithTheirFirstStep(t *testing.T) {
	m, b := fresh(t, 2)
	touched := m.Touched()
	sleep, up, poll, ring := b.Sleep(1), b.Up(1), b.Poll(1), b.Ring()
	for _, o := range []*bell.Op{sleep, up, poll, ring} {
		wantTold(t, "an operation that hasn't begun", o, api.Pending, nobody)
	}
	if m.Touched() != touched {
		t.Error("an operation has touched the memory ahead of its first step")
	}
	wantRun(t, "Sleep", sleep, 1, api.Done, nobody)
	wantRun(t, "Poll", poll, 1, api.None, nobody)
	wantRun(t, "Ring", ring, 3, api.Rouse, 1)
	m.Store(1, 1)
	wantRun(t, "Up", up, 1, api.Done, nobody)
	trial.Cells(t, m, 0, 0)
}

// Rule 6: two bells in two memories, and two that share one.
func TestBellsAreApart(t *testing.T) {
	m := cells.New(5)
	a, b := laid(t, m, 0, 2), laid(t, m, 2, 3)
	other, c := fresh(t, 2)
	for _, one := range []*bell.Bell{a, c} {
		wantSleep(t, one, 0)
		wantSleep(t, one, 1)
	}
	wantRun(t, "Ring", b.Ring(), 3, api.None, nobody)
	wantSleep(t, b, 2)
	wantRun(t, "Ring", a.Ring(), 2, api.Rouse, 0)
	wantRun(t, "Ring", c.Ring(), 2, api.Rouse, 0)
	if !slices.Equal(m.All()[:2], other.All()) {
		t.Errorf("the same was done: %v, %v", m.All()[:2], other.All())
	}
	trial.Cells(t, m, 0, 1, 0, 0, 1)
	wantRun(t, "Ring", b.Ring(), 4, api.Rouse, 2)
	trial.Cells(t, m, 0, 1, 0, 0, 0)
}
