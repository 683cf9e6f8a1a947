package cells

import (
	"math"
	"math/rand"
	"slices"
	"testing"

	"troupe/api"
)

const top = math.MaxUint64

// Numbers that are no cell of a memory of n cells.
func outside(n int) []int {
	return []int{-1, n, n + 1, -n - 1, math.MinInt, math.MaxInt, math.MinInt32, math.MaxInt32, 1 << 40}
}

func wantCells(t *testing.T, m *Mem, want ...uint64) {
	t.Helper()
	if got := m.All(); !slices.Equal(got, want) {
		t.Errorf("All = %v, want %v", got, want)
	}
	for i, v := range want {
		if got := m.Peek(i); got != v {
			t.Errorf("Peek(%d) = %d, want %d", i, got, v)
		}
	}
}

func wantTouched(t *testing.T, m *Mem, want int) {
	t.Helper()
	if got := m.Touched(); got != want {
		t.Errorf("Touched = %d, want %d", got, want)
	}
}

func wantLoad(t *testing.T, m *Mem, i int, want uint64) {
	t.Helper()
	if v, e := m.Load(i); v != want || e != api.OK {
		t.Errorf("Load(%d) = %d, %d, want %d, OK", i, v, e, want)
	}
}

func wantStore(t *testing.T, m *Mem, i int, v uint64) {
	t.Helper()
	if e := m.Store(i, v); e != api.OK {
		t.Errorf("Store(%d, %d) = %d, want OK", i, v, e)
	}
}

func wantSwap(t *testing.T, m *Mem, i int, old, v uint64, want bool) {
	t.Helper()
	if ok, e := m.Swap(i, old, v); ok != want || e != api.OK {
		t.Errorf("Swap(%d, %d, %d) = %v, %d, want %v, OK", i, old, v, ok, e, want)
	}
}

func wantAdd(t *testing.T, m *Mem, i int, d, want uint64) {
	t.Helper()
	if v, e := m.Add(i, d); v != want || e != api.OK {
		t.Errorf("Add(%d, %d) = %d, %d, want %d, OK", i, d, v, e, want)
	}
}

// wantRefused asks for each access of a cell that there isn't.
func wantRefused(t *testing.T, m *Mem, i int) {
	t.Helper()
	if v, e := m.Load(i); v != 0 || e != api.ErrArg {
		t.Errorf("Load(%d) = %d, %d, want 0, ErrArg", i, v, e)
	}
	if e := m.Store(i, 5); e != api.ErrArg {
		t.Errorf("Store(%d) = %d, want ErrArg", i, e)
	}
	if ok, e := m.Swap(i, 0, 5); ok || e != api.ErrArg {
		t.Errorf("Swap(%d) = %v, %d, want false, ErrArg", i, ok, e)
	}
	if v, e := m.Add(i, 5); v != 0 || e != api.ErrArg {
		t.Errorf("Add(%d) = %d, %d, want 0, ErrArg", i, v, e)
	}
}

func TestExamplesOfTheChapter(t *testing.T) {
	m := New(2)
	wantStore(t, m, 0, 7)
	wantSwap(t, m, 0, 7, 9, true)
	wantSwap(t, m, 0, 7, 1, false)
	wantAdd(t, m, 0, 1, 10)
	wantAdd(t, m, 1, top, top)
	if v, e := m.Load(2); v != 0 || e != api.ErrArg {
		t.Errorf("Load(2) = %d, %d, want 0, ErrArg", v, e)
	}
	wantTouched(t, m, 5)
	wantCells(t, m, 10, top)
	if n := New(-3).Len(); n != 0 {
		t.Errorf("New(-3).Len = %d, want 0", n)
	}
}

// P1.1
func TestNewHasSoManyCells(t *testing.T) {
	for _, c := range []struct{ n, want int }{
		{math.MinInt, 0}, {-3, 0}, {-1, 0}, {0, 0}, {1, 1}, {2, 2}, {100, 100},
		{api.MaxCells - 1, api.MaxCells - 1}, {api.MaxCells, api.MaxCells},
		{api.MaxCells + 1, api.MaxCells}, {1 << 40, api.MaxCells}, {math.MaxInt, api.MaxCells},
	} {
		m := New(c.n)
		if m.Len() != c.want || len(m.All()) != c.want {
			t.Errorf("New(%d): Len %d, All of %d, want %d", c.n, m.Len(), len(m.All()), c.want)
		}
		wantTouched(t, m, 0)
		if c.want > 0 {
			wantLoad(t, m, c.want-1, 0)
		}
		wantRefused(t, m, c.want)
	}
}

// P1.1
func TestNewCellsHoldNought(t *testing.T) {
	for _, n := range []int{1, 17, api.MaxCells, api.MaxCells + 5} {
		for i, v := range New(n).All() {
			if v != 0 {
				t.Fatalf("New(%d): cell %d holds %d", n, i, v)
			}
		}
	}
}

// P1.1
func TestLenStaysAsItWas(t *testing.T) {
	m := New(3)
	wantStore(t, m, 2, top)
	wantRefused(t, m, 3)
	if m.Len() != 3 {
		t.Errorf("Len = %d, want 3", m.Len())
	}
}

// P1.2
func TestAccessOfNoCell(t *testing.T) {
	for _, n := range []int{-1, 0, 1, 4} {
		m := New(n)
		for i := range m.Len() {
			wantStore(t, m, i, uint64(i))
		}
		before, touched := m.All(), m.Touched()
		for _, i := range outside(m.Len()) {
			wantRefused(t, m, i)
		}
		wantCells(t, m, before...)
		wantTouched(t, m, touched)
	}
}

// P1.2
func TestLoadAnswersWhatTheCellHolds(t *testing.T) {
	m := New(3)
	for _, v := range []uint64{1, 0, 1 << 63, top} {
		wantStore(t, m, 1, v)
		wantLoad(t, m, 1, v)
		wantLoad(t, m, 1, v)
		wantCells(t, m, 0, v, 0)
	}
}

// P1.2
func TestStoreChangesItsCellAlone(t *testing.T) {
	m := New(4)
	wantStore(t, m, 0, 3)
	wantStore(t, m, 3, top)
	wantCells(t, m, 3, 0, 0, top)
	wantStore(t, m, 0, 0)
	wantCells(t, m, 0, 0, 0, top)
}

// P1.2
func TestSwapIsDoneOnlyIfTheCellHoldsOld(t *testing.T) {
	m := New(3)
	wantSwap(t, m, 1, 1, 2, false)
	wantCells(t, m, 0, 0, 0)
	wantSwap(t, m, 1, 0, 2, true)
	wantCells(t, m, 0, 2, 0)
	wantSwap(t, m, 1, 2, 2, true)
	wantCells(t, m, 0, 2, 0)
	// v itself is not what counts.
	wantSwap(t, m, 1, 9, 2, false)
	wantSwap(t, m, 1, 2, top, true)
	// A number that is the same in its lower half only is another one.
	wantSwap(t, m, 1, math.MaxUint32, 5, false)
	wantSwap(t, m, 1, top-1, 5, false)
	wantSwap(t, m, 1, top, 0, true)
	wantCells(t, m, 0, 0, 0)
}

// P1.2
func TestAddIsModulo(t *testing.T) {
	m := New(3)
	wantAdd(t, m, 1, 0, 0)
	wantAdd(t, m, 1, 5, 5)
	wantAdd(t, m, 1, 1<<63, 1<<63+5)
	wantAdd(t, m, 1, 1<<63, 5)
	wantAdd(t, m, 1, top, 4)
	wantAdd(t, m, 1, top-3, 0)
	wantAdd(t, m, 1, top, top)
	wantAdd(t, m, 1, top, top-1)
	wantAdd(t, m, 1, 2, 0)
	wantCells(t, m, 0, 0, 0)
	wantAdd(t, m, 2, 7, 7)
	wantCells(t, m, 0, 0, 7)
}

// P1.2
func TestLastCellOfTheGreatestMemory(t *testing.T) {
	m := New(api.MaxCells)
	wantStore(t, m, api.MaxCells-1, 4)
	wantAdd(t, m, api.MaxCells-1, 1, 5)
	wantLoad(t, m, api.MaxCells-1, 5)
	wantLoad(t, m, 0, 0)
	wantRefused(t, m, api.MaxCells)
}

// P1.3
func TestTouchedCountsEachAccess(t *testing.T) {
	m := New(2)
	wantTouched(t, m, 0)
	wantLoad(t, m, 0, 0)
	wantTouched(t, m, 1)
	wantStore(t, m, 0, 0)
	wantTouched(t, m, 2)
	wantSwap(t, m, 1, 0, 3, true)
	wantTouched(t, m, 3)
	wantSwap(t, m, 1, 0, 3, false)
	wantTouched(t, m, 4)
	wantAdd(t, m, 1, 0, 3)
	wantTouched(t, m, 5)
	wantRefused(t, m, 2)
	wantRefused(t, m, -1)
	wantTouched(t, m, 5)
}

// P1.3
func TestPeekAndAllAreNoAccesses(t *testing.T) {
	m := New(2)
	wantStore(t, m, 1, 8)
	for range 3 {
		wantCells(t, m, 0, 8)
		m.Len()
		m.Touched()
		for _, i := range outside(2) {
			if v := m.Peek(i); v != 0 {
				t.Errorf("Peek(%d) = %d, want 0", i, v)
			}
		}
	}
	wantTouched(t, m, 1)
	if n := len(New(0).All()); n != 0 {
		t.Errorf("All of no cells has %d", n)
	}
}

// P1.3 and rule 5
func TestAllIsNewMemory(t *testing.T) {
	m := New(2)
	wantStore(t, m, 0, 4)
	first, second := m.All(), m.All()
	first[0], first[1] = 9, 9
	_ = append(first[:0], 7, 7)
	wantCells(t, m, 4, 0)
	if !slices.Equal(second, []uint64{4, 0}) {
		t.Errorf("another answer has become %v", second)
	}
	wantStore(t, m, 1, 6)
	if !slices.Equal(second, []uint64{4, 0}) {
		t.Errorf("an answer has changed behind a Store: %v", second)
	}
}

// Rule 6
func TestMemoriesAreApart(t *testing.T) {
	a, b := New(2), New(2)
	wantStore(t, a, 0, 5)
	wantCells(t, b, 0, 0)
	wantTouched(t, b, 0)
	wantStore(t, b, 0, 5)
	wantCells(t, b, a.All()...)
	wantTouched(t, b, a.Touched())
}

// plain is a memory as the chapter's words have it: a list and a count.
type plain struct {
	cells   []uint64
	touched int
}

// one does the same access to both and holds the answers against each other.
func (p *plain) one(t *testing.T, m *Mem, call, i int, old, v uint64) {
	t.Helper()
	if i < 0 || i >= len(p.cells) {
		wantRefused(t, m, i)
		return
	}
	p.touched++
	switch call {
	case 0:
		wantLoad(t, m, i, p.cells[i])
	case 1:
		p.cells[i] = v
		wantStore(t, m, i, v)
	case 2:
		is := p.cells[i] == old
		if is {
			p.cells[i] = v
		}
		wantSwap(t, m, i, old, v, is)
	default:
		p.cells[i] += v
		wantAdd(t, m, i, v, p.cells[i])
	}
}

// P1.2, P1.3: many rows of accesses, each the same at every run.
func TestLongRowsOfAccesses(t *testing.T) {
	numbers := []uint64{0, 1, 2, 3, 1 << 32, 1 << 63, top - 1, top}
	for seed := range int64(40) {
		draw := rand.New(rand.NewSource(seed))
		n := draw.Intn(6)
		m, p := New(n), &plain{cells: make([]uint64, n)}
		for range 300 {
			old, v := numbers[draw.Intn(len(numbers))], numbers[draw.Intn(len(numbers))]
			p.one(t, m, draw.Intn(4), draw.Intn(n+2)-1, old, v)
		}
		wantCells(t, m, p.cells...)
		wantTouched(t, m, p.touched)
	}
}
