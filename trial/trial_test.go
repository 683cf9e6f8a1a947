package trial

import (
	"slices"
	"testing"

	"troupe/cells"
)

// tally counts what a test is told, and goes on behind a Fatalf.
type tally struct{ errors, fatals int }

func (c *tally) Helper()               {}
func (c *tally) Errorf(string, ...any) { c.errors++ }
func (c *tally) Fatalf(string, ...any) { c.fatals++ }

// adder adds 1 to its cell at each step, by so many accesses a step.
type adder struct {
	m                   *cells.Mem
	left, cell, touches int
}

func (a *adder) Over() bool { return a.left == 0 }

func (a *adder) Step() bool {
	a.left--
	for range a.touches - 1 {
		a.m.Load(a.cell)
	}
	a.m.Add(a.cell, 1)
	return a.Over()
}

func TestRunCountsSteps(t *testing.T) {
	for _, steps := range []int{1, 2, 9, most} {
		if n := Run(t, &adder{m: cells.New(1), left: steps, touches: 1}); n != steps {
			t.Errorf("%d steps, want %d", n, steps)
		}
	}
	var told tally
	if n := Run(&told, &adder{m: cells.New(1), left: most + 1, touches: 1}); n != 0 || told.fatals != 1 {
		t.Errorf("of an operation that doesn't end: %d, %d fatals", n, told.fatals)
	}
}

func TestCellsTellsOfWrongOnes(t *testing.T) {
	m := cells.New(2)
	m.Store(1, 5)
	Cells(t, m, 0, 5)
	for _, want := range [][]uint64{{0, 6}, {0}, {0, 5, 0}, nil} {
		var told tally
		if Cells(&told, m, want...); told.errors != 1 {
			t.Errorf("%v: %d errors", want, told.errors)
		}
	}
}

func TestStepsTellsWhatIsWrong(t *testing.T) {
	for _, c := range []struct {
		name         string
		steps, times int
		behind       [][]uint64
		errors       int
	}{
		{"right", 2, 1, [][]uint64{{1}, {2}}, 0},
		{"over too early", 1, 1, [][]uint64{{1}, {2}}, 2},
		{"over too late", 3, 1, [][]uint64{{1}, {2}}, 1},
		{"two accesses", 2, 2, [][]uint64{{1}, {2}}, 2},
		{"a wrong cell", 2, 1, [][]uint64{{1}, {3}}, 1},
	} {
		var told tally
		m := cells.New(1)
		Steps(&told, m, &adder{m: m, left: c.steps, touches: c.times}, c.behind...)
		if told.errors != c.errors {
			t.Errorf("%s: %d errors, want %d", c.name, told.errors, c.errors)
		}
	}
}

func TestEveryOrderPlaysEachRowOnce(t *testing.T) {
	var rows [][]int
	plays := EveryOrder(func(pick func(int) int) {
		row := []int{pick(2)}
		if row[0] == 1 { // what can be picked may hang on what was picked
			row = append(row, pick(3), pick(1))
		}
		rows = append(rows, row)
	})
	want := [][]int{{0}, {1, 0, 0}, {1, 1, 0}, {1, 2, 0}}
	if plays != len(want) || !slices.EqualFunc(rows, want, slices.Equal) {
		t.Errorf("%d plays: %v", plays, rows)
	}
	if plays := EveryOrder(func(func(int) int) {}); plays != 1 {
		t.Errorf("%d plays of nothing to pick", plays)
	}
}
