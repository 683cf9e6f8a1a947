package vigil_test

import (
	"math"
	"slices"
	"testing"

	"troupe/api"
	"troupe/cells"
	"troupe/trial"
	"troupe/vigil"
)

// fresh makes a vigil in a memory that has no other cell.
func fresh(t *testing.T, actors int) (*cells.Mem, *vigil.Vigil) {
	t.Helper()
	m := cells.New(actors * actors)
	return m, laid(t, m, 0, actors)
}

func laid(t *testing.T, m *cells.Mem, base, actors int) *vigil.Vigil {
	t.Helper()
	v, e := vigil.Make(m, base, actors)
	if v == nil || e != api.OK {
		t.Fatalf("Make(%d cells, %d, %d) = %v, %d", m.Len(), base, actors, v, e)
	}
	return v
}

// holding makes a vigil of two actors whose cells hold these numbers, which thus is as it never may have become.
func holding(t *testing.T, held ...uint64) (*cells.Mem, *vigil.Vigil) {
	t.Helper()
	m, v := fresh(t, 2)
	for cell, c := range held {
		m.Store(cell, c)
	}
	return m, v
}

func wantTold(t *testing.T, name string, o *vigil.Op, outcome int) {
	if o.Over() != (outcome != api.Pending) || o.Outcome() != outcome {
		t.Helper() // only here, since it takes long
		t.Errorf("%s: over %t, outcome %d, want outcome %d", name, o.Over(), o.Outcome(), outcome)
	}
}

// wantRun steps an operation that nobody hinders, from wherever it stands, till it is over.
func wantRun(t *testing.T, name string, o *vigil.Op, steps, outcome int) {
	t.Helper()
	if n := trial.Run(t, o); n != steps {
		t.Errorf("%s: %d steps, want %d", name, n, steps)
	}
	wantTold(t, name, o, outcome)
}

func stepped(o *vigil.Op, steps int) *vigil.Op {
	for range steps {
		o.Step()
	}
	return o
}

func TestExamplesOfTheChapter(t *testing.T) {
	m, v := fresh(t, 2)
	wantRun(t, "Claim", v.Claim(1, 2), 1, api.None)
	wantRun(t, "Watch", v.Watch(1, 2), 2, api.Done)
	wantRun(t, "Watch", v.Watch(1, 2), 1, api.None)
	wantRun(t, "Claim", v.Claim(1, 2), 1, api.Done)
	wantRun(t, "Claim", v.Claim(1, 2), 1, api.None)
	wantRun(t, "Unwatch", v.Unwatch(1, 2), 1, api.None)
	wantRun(t, "Watch", v.Watch(1, 2), 2, api.Done)
	wantRun(t, "Unwatch", v.Unwatch(1, 2), 2, api.Done)
	wantTold(t, "Watch of no actor", v.Watch(3, 1), api.None)
	trial.Cells(t, m, 0, 0, 0, 0)
}

// P19.1
func TestSizeAndMake(t *testing.T) {
	trial.Layout{
		Most:  api.MaxActors,
		Cells: func(actors int) []uint64 { return make([]uint64, actors*actors) },
		Size:  vigil.Size,
		Make: func(m *cells.Mem, base, actors int) (bool, api.Errno) {
			v, e := vigil.Make(m, base, actors)
			return v != nil, e
		},
	}.Hold(t)
}

// P19.1: numbers of actors that there can't be, although their squares, which may have wrapped, are sizes.
func TestSizesThatThereArent(t *testing.T) {
	m := cells.New(api.MaxCells)
	for _, n := range []int{-17, -16, -4, -1, 17, 256, 1 << 31, 1 << 32, 1<<32 + 1, 1<<63 - 1, 1<<63 - 4, -1<<63 + 1, -1<<63 + 4, 1<<62 + 1, 1<<62 + 2} {
		if size := vigil.Size(n); size != 0 {
			t.Errorf("Size(%d) = %d", n, size)
		}
		if v, e := vigil.Make(m, 0, n); v != nil || e != api.ErrArg || m.Touched() != 0 {
			t.Errorf("Make(%d): %v, %d, %d accesses", n, v, e, m.Touched())
		}
	}
}

// P19.1: what a vigil is lies in its cells alone.
func TestVigilIsLaidOutAnew(t *testing.T) {
	m, v := fresh(t, 2)
	wantRun(t, "Watch", v.Watch(1, 2), 2, api.Done)
	wantRun(t, "Watch", v.Watch(2, 2), 2, api.Done)
	wantRun(t, "Claim", v.Claim(2, 2), 1, api.Done)
	trial.Cells(t, m, 0, 1, 0, 2)
	again := laid(t, m, 0, 2)
	trial.Cells(t, m, 0, 0, 0, 0)
	wantRun(t, "Claim", v.Claim(1, 2), 1, api.None)
	wantRun(t, "Watch", again.Watch(1, 2), 2, api.Done)
	wantRun(t, "Watch", v.Watch(1, 2), 1, api.None)
	wantRun(t, "Claim", v.Claim(1, 2), 1, api.Done)
	wantRun(t, "Claim", again.Claim(1, 2), 1, api.None)
}

// P19.1, P19.2: the cells of a vigil that doesn't begin at 0; those beside it hold what a watch would.
func TestVigilBesideOthers(t *testing.T) {
	m := cells.New(15)
	for i := range m.Len() {
		m.Store(i, 1)
	}
	v := laid(t, m, 4, 3)
	trial.Cells(t, m, 1, 1, 1, 1, 0, 0, 0, 0, 0, 0, 0, 0, 0, 1, 1)
	for _, o := range []*vigil.Op{v.Watch(1, 1), v.Watch(1, 3), v.Watch(2, 1), v.Watch(3, 2), v.Watch(3, 3)} {
		wantRun(t, "Watch", o, 2, api.Done)
	}
	trial.Cells(t, m, 1, 1, 1, 1, 1, 0, 1, 1, 0, 0, 0, 1, 1, 1, 1)
	wantRun(t, "Claim", v.Claim(1, 2), 1, api.None)
	wantRun(t, "Claim", v.Claim(1, 3), 1, api.Done)
	wantRun(t, "Claim", v.Claim(3, 3), 1, api.Done)
	wantRun(t, "Unwatch", v.Unwatch(2, 1), 2, api.Done)
	wantRun(t, "Unwatch", v.Unwatch(2, 3), 1, api.None)
	trial.Cells(t, m, 1, 1, 1, 1, 1, 0, 2, 0, 0, 0, 0, 1, 2, 1, 1)
}

// What a cell may hold; 3 and those behind it only somebody else can have brought about.
var numbers = []uint64{0, 1, 2, 3, 1 << 32, 1<<32 + 1, 1<<32 + 2, 1 << 63, math.MaxUint64}

// P19.2: of each watcher and watched one of each vigil, whatever their cell holds; the others hold each what this one may be mistaken for.
func TestOperationsOfEachTwo(t *testing.T) {
	for n := 1; n <= api.MaxActors; n++ {
		m, v := fresh(t, n)
		for cell := range n * n {
			m.Store(cell, uint64(cell%3))
		}
		for x := 1; x <= n; x++ {
			for y := 1; y <= n; y++ {
				wantAlone(t, m, v, x, y, (x-1)*n+y-1)
			}
		}
	}
}

// wantAlone holds the operations of one watcher and one watched one, which nobody hinders, and what the cells hold behind each step.
func wantAlone(t *testing.T, m *cells.Mem, v *vigil.Vigil, x, y, cell int) {
	was := m.Peek(cell)
	for _, c := range numbers {
		for kind := range kinds {
			m.Store(cell, c)
			held, behind := m.All(), m.All()
			outcome := api.Done
			switch {
			case kind == watch && c != 1:
				behind[cell] = 1
			case kind == unwatch && c == 1:
				behind[cell] = 0
			case kind == claim && c == 1:
				behind[cell] = 2
			default:
				outcome = api.None
			}
			o := begin(v, kind, x, y)
			if kind != claim && outcome == api.Done {
				trial.Steps(t, m, o, held, behind)
			} else {
				trial.Steps(t, m, o, behind)
			}
			wantTold(t, names[kind], o, outcome)
			if t.Failed() {
				t.Fatalf("%s(%d, %d), where the cell held %d", names[kind], x, y, c)
			}
		}
	}
	m.Store(cell, was)
}

// P19.2: of those who are no actors, even where there is a cell for them, or one for a number that has wrapped.
func TestOperationsOfOthers(t *testing.T) {
	others := func(n int) []int {
		return []int{math.MinInt, math.MinInt + 1, math.MinInt + 2, -1 << 32, -n, 1 - n, -1, 0, n + 1, n + 2, 2 * n, n*n + 1, api.MaxActors + 1, 1 << 32, 1<<32 + 1, 1<<62 + 1, math.MaxInt - 1, math.MaxInt}
	}
	for n := 1; n <= api.MaxActors; n++ {
		m := cells.New(3 * n * n)
		for i := range m.Len() {
			m.Store(i, 1)
		}
		v := laid(t, m, n*n, n)
		for cell := range n * n {
			m.Store(n*n+cell, uint64(cell%3))
		}
		held, touched := m.All(), m.Touched()
		for _, other := range others(n) {
			wantOver(t, v, other, other)
			for actor := 1; actor <= n; actor++ {
				wantOver(t, v, other, actor)
				wantOver(t, v, actor, other)
			}
		}
		if m.Touched() != touched {
			t.Errorf("of %d actors: %d accesses", n, m.Touched()-touched)
		}
		trial.Cells(t, m, held...)
	}
}

// wantOver holds the operations of x and y, one of whom is no actor: they are over from the beginning, and go on being so.
func wantOver(t *testing.T, v *vigil.Vigil, x, y int) {
	t.Helper()
	for kind := range kinds {
		o := begin(v, kind, x, y)
		wantTold(t, names[kind], o, api.None)
		if !o.Step() || !o.Step() {
			t.Errorf("%s(%d, %d) is over no more", names[kind], x, y)
		}
		wantTold(t, names[kind], o, api.None)
	}
}

// P19.2: who watches who has been claimed watches anew, and that watch is claimed once, too.
func TestWatchOfOneWhoWasClaimed(t *testing.T) {
	m, v := fresh(t, 2)
	for range 3 {
		wantRun(t, "Watch", v.Watch(2, 1), 2, api.Done)
		trial.Cells(t, m, 0, 0, 1, 0)
		wantRun(t, "Claim", v.Claim(2, 1), 1, api.Done)
		trial.Cells(t, m, 0, 0, 2, 0)
		wantRun(t, "Claim", v.Claim(2, 1), 1, api.None)
		wantRun(t, "Unwatch", v.Unwatch(2, 1), 1, api.None)
		trial.Cells(t, m, 0, 0, 2, 0)
	}
}

// P19.2: a Swap that is false, since somebody else was between, is followed by another look.
func TestOperationsThatGoOnAtTheirBeginning(t *testing.T) {
	m, v := fresh(t, 2)
	first, second, third := stepped(v.Watch(1, 2), 1), stepped(v.Watch(1, 2), 1), stepped(v.Watch(1, 2), 1)
	wantRun(t, "Watch", first, 1, api.Done)
	trial.Steps(t, m, second, []uint64{0, 1, 0, 0}, []uint64{0, 1, 0, 0})
	wantTold(t, "Watch behind another one", second, api.None)
	wantRun(t, "Claim", v.Claim(1, 2), 1, api.Done)
	trial.Steps(t, m, third, []uint64{0, 2, 0, 0}, []uint64{0, 2, 0, 0}, []uint64{0, 1, 0, 0})
	wantTold(t, "Watch behind one that was claimed", third, api.Done)

	first, second, third = stepped(v.Unwatch(1, 2), 1), stepped(v.Unwatch(1, 2), 1), stepped(v.Unwatch(1, 2), 1)
	wantRun(t, "Unwatch", first, 1, api.Done)
	trial.Steps(t, m, second, []uint64{0, 0, 0, 0}, []uint64{0, 0, 0, 0})
	wantTold(t, "Unwatch behind another one", second, api.None)
	trial.One(t, m, third)
	wantRun(t, "Watch", v.Watch(1, 2), 2, api.Done)
	trial.Steps(t, m, third, []uint64{0, 1, 0, 0}, []uint64{0, 0, 0, 0})
	wantTold(t, "Unwatch of another watch", third, api.Done)
}

// P19.2: who finds the cell as it was is through, whatever was between.
func TestSwapsSeeNoDifference(t *testing.T) {
	m, v := fresh(t, 2)
	o := stepped(v.Watch(2, 1), 1)
	wantRun(t, "Watch", v.Watch(2, 1), 2, api.Done)
	wantRun(t, "Unwatch", v.Unwatch(2, 1), 2, api.Done)
	wantRun(t, "Watch", o, 1, api.Done)
	trial.Cells(t, m, 0, 0, 1, 0)
	o = stepped(v.Unwatch(2, 1), 1)
	wantRun(t, "Claim", v.Claim(2, 1), 1, api.Done)
	wantRun(t, "Watch", v.Watch(2, 1), 2, api.Done)
	wantRun(t, "Unwatch", o, 1, api.Done)
	trial.Cells(t, m, 0, 0, 0, 0)
}

// P19.2: all that a cell can hold ahead of each of a few steps, as far as an operation tells it apart.
func TestOperationsWhereSomebodyIsBetween(t *testing.T) {
	for kind := range kinds {
		trial.EveryOrder(func(pick func(int) int) {
			m, v := fresh(t, 2)
			o, p, row := begin(v, kind, 2, 1), plainly(kind, 2, 2, 1), []uint64{}
			for range 5 {
				row = append(row, []uint64{0, 1, 2, 3, math.MaxUint64}[pick(5)])
				m.Store(2, row[len(row)-1])
				held := m.All()
				trial.One(t, m, o)
				p.step(held)
				wantTold(t, names[kind], o, p.outcome)
				trial.Cells(t, m, held...)
			}
			if t.Failed() {
				t.Fatalf("%s, where the cell held %v, one ahead of each step", names[kind], row)
			}
		})
	}
}

// P19.3
func TestNothingIsToldAheadOfTheOutcome(t *testing.T) {
	for _, c := range []struct {
		kind           int
		held           uint64
		steps, outcome int
	}{{watch, 0, 2, api.Done}, {watch, 1, 1, api.None}, {watch, 2, 2, api.Done}, {unwatch, 1, 2, api.Done}, {unwatch, 0, 1, api.None}, {unwatch, 2, 1, api.None}, {claim, 1, 1, api.Done}, {claim, 0, 1, api.None}, {claim, 2, 1, api.None}} {
		m, v := holding(t, 0, c.held, 0, 0)
		o := begin(v, c.kind, 1, 2)
		for i := range c.steps {
			wantTold(t, names[c.kind], o, api.Pending)
			if over := trial.One(t, m, o); over != (i == c.steps-1) {
				t.Errorf("%s: over %t at step %d", names[c.kind], over, i+1)
			}
		}
		wantTold(t, names[c.kind], o, c.outcome)
	}
}

// P19.3
func TestStepOfOneThatIsOverDoesNothing(t *testing.T) {
	m, v := fresh(t, 2)
	all := []struct {
		o              *vigil.Op
		steps, outcome int
	}{{v.Claim(1, 2), 1, api.None}, {v.Unwatch(1, 2), 1, api.None}, {v.Watch(1, 2), 2, api.Done}, {v.Watch(1, 2), 1, api.None}, {v.Unwatch(1, 2), 2, api.Done}, {v.Watch(1, 2), 2, api.Done}, {v.Claim(1, 2), 1, api.Done}}
	for _, c := range all {
		wantRun(t, "an operation", c.o, c.steps, c.outcome)
	}
	for held := range uint64(3) { // so that an access too many would tell another thing
		m.Store(1, held)
		for _, c := range all {
			for range 5 {
				if !trial.One(t, m, c.o) {
					t.Error("an operation that was over is over no more")
				}
			}
			wantTold(t, "an operation that is over", c.o, c.outcome)
		}
		trial.Cells(t, m, 0, held, 0, 0)
	}
}

// P19.3: an operation that isn't stepped does nothing, and its calls touch nothing.
func TestOperationsBeginWithTheirFirstStep(t *testing.T) {
	m, v := fresh(t, 2)
	touched := m.Touched()
	claiming, unwatching, watching := v.Claim(1, 2), v.Unwatch(1, 2), v.Watch(1, 2)
	for _, o := range []*vigil.Op{claiming, unwatching, watching} {
		wantTold(t, "an operation that hasn't begun", o, api.Pending)
	}
	if m.Touched() != touched {
		t.Error("an operation has touched the memory ahead of its first step")
	}
	wantRun(t, "Watch", watching, 2, api.Done)
	wantRun(t, "Claim", claiming, 1, api.Done)
	wantRun(t, "Unwatch", unwatching, 1, api.None)
	trial.Cells(t, m, 0, 2, 0, 0)
}

// P19.3: an operation goes on in a vigil that was laid out anew meanwhile: what it knows is what it has loaded.
func TestOperationsGoOnInCellsAlone(t *testing.T) {
	m, v := fresh(t, 2)
	watching := stepped(v.Watch(1, 1), 1)
	wantRun(t, "Watch", v.Watch(2, 2), 2, api.Done)
	unwatching := stepped(v.Unwatch(2, 2), 1)
	laid(t, m, 0, 2)
	wantRun(t, "Watch", watching, 1, api.Done)
	wantRun(t, "Unwatch", unwatching, 2, api.None)
	trial.Cells(t, m, 1, 0, 0, 0)
}

// Rule 6: two vigils in two memories, and two that share one.
func TestVigilsAreApart(t *testing.T) {
	m := cells.New(13)
	a, b := laid(t, m, 0, 2), laid(t, m, 4, 3)
	other, c := fresh(t, 2)
	for _, one := range []*vigil.Vigil{a, c} {
		wantRun(t, "Watch", one.Watch(1, 2), 2, api.Done)
		wantRun(t, "Watch", one.Watch(2, 2), 2, api.Done)
	}
	wantRun(t, "Claim", b.Claim(1, 2), 1, api.None)
	wantRun(t, "Watch", b.Watch(1, 1), 2, api.Done)
	wantRun(t, "Claim", a.Claim(2, 2), 1, api.Done)
	wantRun(t, "Claim", c.Claim(2, 2), 1, api.Done)
	if !slices.Equal(m.All()[:4], other.All()) {
		t.Errorf("the same was done: %v, %v", m.All()[:4], other.All())
	}
	trial.Cells(t, m, 0, 1, 0, 2, 1, 0, 0, 0, 0, 0, 0, 0, 0)
}
