package trial

import (
	"fmt"
	"math"
	"math/rand"
	"slices"
	"testing"

	"troupe/api"
	"troupe/cells"
)

// tally counts what a test is told, and goes on behind a Fatalf.
type tally struct{ errors, fatals int }

func (c *tally) Helper()               {}
func (c *tally) Errorf(string, ...any) { c.errors++ }
func (c *tally) Fatalf(string, ...any) { c.fatals++ }
func (c *tally) Failed() bool          { return c.errors+c.fatals > 0 }

// adder adds 1 to its cell at each step, by so many accesses a step.
type adder struct {
	m                   *cells.Mem
	left, cell, touches int
}

func (a *adder) Over() bool { return a.left == 0 }

func (a *adder) Step() bool {
	a.left--
	for range a.touches - 1 {
		a.m.Load(a.cell)
	}
	a.m.Add(a.cell, 1)
	return a.Over()
}

func TestRunCountsSteps(t *testing.T) {
	for _, steps := range []int{1, 2, 9, mostSteps} {
		if n := Run(t, &adder{m: cells.New(1), left: steps, touches: 1}); n != steps {
			t.Errorf("%d steps, want %d", n, steps)
		}
	}
	var told tally
	if n := Run(&told, &adder{m: cells.New(1), left: mostSteps + 1, touches: 1}); n != 0 || told.fatals != 1 {
		t.Errorf("of an operation that doesn't end: %d, %d fatals", n, told.fatals)
	}
}

func TestCellsTellsOfWrongOnes(t *testing.T) {
	m := cells.New(2)
	m.Store(1, 5)
	Cells(t, m, 0, 5)
	for _, want := range [][]uint64{{0, 6}, {0}, {0, 5, 0}, nil} {
		var told tally
		if Cells(&told, m, want...); told.errors != 1 {
			t.Errorf("%v: %d errors", want, told.errors)
		}
	}
}

// liar tells by Step the opposite of what it is.
type liar struct{ adder }

func (l *liar) Step() bool { return !l.adder.Step() }

// toucher goes on touching its cell when it is over.
type toucher struct{ adder }

func (*toucher) Over() bool { return true }

func TestOneTellsWhatIsWrong(t *testing.T) {
	m := cells.New(1)
	right := &adder{m: m, left: 2, touches: 1}
	if One(t, m, right) || !One(t, m, right) {
		t.Error("One doesn't tell what Step tells")
	}
	for _, c := range []struct {
		name string
		o    Op
	}{
		{"two accesses", &adder{m: m, left: 2, touches: 2}},
		{"Step isn't as Over", &liar{adder{m: m, left: 2, touches: 1}}},
		{"an access of one that is over", &toucher{adder{m: m, left: 1, touches: 1}}},
	} {
		var told tally
		if One(&told, m, c.o); told.errors != 1 {
			t.Errorf("%s: %d errors", c.name, told.errors)
		}
	}
}

func TestStepsTellsWhatIsWrong(t *testing.T) {
	for _, c := range []struct {
		name         string
		steps, times int
		behind       [][]uint64
		errors       int
	}{
		{"right", 2, 1, [][]uint64{{1}, {2}}, 0},
		{"over too early", 1, 1, [][]uint64{{1}, {2}}, 3},
		{"over too late", 3, 1, [][]uint64{{1}, {2}}, 1},
		{"two accesses", 2, 2, [][]uint64{{1}, {2}}, 2},
		{"a wrong cell", 2, 1, [][]uint64{{1}, {3}}, 1},
	} {
		var told tally
		m := cells.New(1)
		Steps(&told, m, &adder{m: m, left: c.steps, touches: c.times}, c.behind...)
		if told.errors != c.errors {
			t.Errorf("%s: %d errors, want %d", c.name, told.errors, c.errors)
		}
	}
}

// twinned makes adders and their twins, which add so much at each step; both tell how many steps are left, a twin so many too many.
func twinned(t T, m *cells.Mem, adds uint64, many int) func() Twins {
	return func() Twins {
		a := &adder{m: m, left: 3, touches: 1}
		left := a.left
		return Twins{
			Op: &ended{a},
			Plain: func(held []uint64) {
				if left > 0 {
					held[0] += adds
					left--
				}
			},
			Same: func() {
				if left+many != a.left {
					t.Errorf("%d steps left, want %d", a.left, left+many)
				}
			},
		}
	}
}

// ended is an adder that does nothing once it is over.
type ended struct{ *adder }

func (e *ended) Step() bool { return e.Over() || e.adder.Step() }

func TestMixedHoldsOperationsAgainstTheirTwins(t *testing.T) {
	for _, meddles := range []int{0, 1, 3} {
		draw := rand.New(rand.NewSource(1))
		m := cells.New(2)
		odds := 0
		Mixed(t, m, draw.Intn, twinned(t, m, 1, 0), meddles, func([]uint64) uint64 { odds++; return 77 })
		if (odds > 0) != (meddles > 0) || meddles == 1 && odds != mixedTurns {
			t.Errorf("%d odd numbers, where one meddles at one of %d turns", odds, meddles)
		}
		if m.Peek(0) < 77 {
			t.Errorf("the cell holds %d", m.Peek(0))
		}
	}
}

func TestMixedTellsWhatIsWrong(t *testing.T) {
	for name, c := range map[string]struct {
		touches int
		adds    uint64
		many    int
	}{
		"another cell":       {1, 2, 0},
		"another thing told": {1, 1, 1},
		"two accesses":       {2, 1, 0},
	} {
		var told tally
		m := cells.New(1)
		right := twinned(&told, m, c.adds, c.many)
		begun := 0
		begin := func() Twins {
			begun++
			w := right()
			w.Op.(*ended).touches = c.touches
			return w
		}
		if Mixed(&told, m, func(int) int { return 0 }, begin, 0, nil); told.errors != 2 || begun != 1 {
			t.Errorf("%s: %d errors, %d operations", name, told.errors, begun)
		}
	}
}

func TestOddIsNearToWhatMatters(t *testing.T) {
	held := []uint64{1000, 2000}
	for _, c := range []struct {
		picks []int
		want  uint64
	}{
		{[]int{0, 0, 0}, math.MaxUint64 - 1}, {[]int{4, 1, 0}, 2}, {[]int{0, 0, 1}, 1<<63 - 2}, {[]int{3, 1, 1}, 1<<63 + 1},
		{[]int{1, 0, 2}, 1999}, {[]int{4, 1, 2}, 4002}, {[]int{2, 0, 3}, 1000}, {[]int{0, 1, 3}, 1998},
	} {
		var of []int
		got := Odd(func(n int) int { of = append(of, n); return c.picks[len(of)-1] }, held)
		if got != c.want || !slices.Equal(of, []int{5, 2, 4}) {
			t.Errorf("%v of %v: %d, want %d", c.picks, of, got, c.want)
		}
	}
}

func TestMetTellsOfWhatIsSeldom(t *testing.T) {
	met := map[[2]int]int{{1, 2}: seldom, {2, 1}: seldom - 1, {3, 3}: 2 * seldom}
	Met(t, met, nil)
	Met(t, met, [][2]int{{1, 2}, {3, 3}})
	var told tally
	if Met(&told, met, [][2]int{{2, 1}, {1, 2}, {7, 7}}); told.errors != 2 {
		t.Errorf("%d errors, want 2", told.errors)
	}
}

func TestTurnsGoToThoseThatStillGo(t *testing.T) {
	for _, c := range []struct {
		last       bool // whether the last one of those that go is picked, or the first one
		left, want []int
	}{
		{false, []int{2, 0, 1}, []int{0, 0, 2}},
		{true, []int{2, 0, 1}, []int{2, 0, 0}},
		{true, []int{1, 2}, []int{1, 1, 0}},
		{false, nil, nil},
	} {
		left := slices.Clone(c.left)
		goes := func(k int) bool { return left[k] > 0 }
		order := Turns(t, len(left), goes, func(k int) { left[k]-- }, func(n int) int {
			if c.last {
				return n - 1
			}
			return 0
		})
		if !slices.Equal(order, c.want) {
			t.Errorf("%v: the turns %v, want %v", c.left, order, c.want)
		}
	}
}

func TestTurnsEndAtAFailure(t *testing.T) {
	always, first := func(int) bool { return true }, func(int) int { return 0 }
	var told tally
	fails := func(int) { told.Errorf("") }
	if order := Turns(&told, 1, always, fails, first); len(order) != 1 || told.errors != 1 {
		t.Errorf("%d turns, %d errors", len(order), told.errors)
	}
	if order := Turns(&told, 1, always, fails, first); len(order) != 0 {
		t.Errorf("%d turns of a test that had failed", len(order))
	}
	told = tally{}
	if order := Turns(&told, 1, always, func(int) {}, first); len(order) != mostTurns || told.errors != 1 {
		t.Errorf("%d turns without an end, %d errors", len(order), told.errors)
	}
}

func TestTurnsEndAtAPickBelowZero(t *testing.T) {
	picks := []int{1, 0, -1}
	order := Turns(t, 2, func(int) bool { return true }, func(int) {}, func(int) int {
		k := picks[0]
		picks = picks[1:]
		return k
	})
	if !slices.Equal(order, []int{1, 0}) {
		t.Errorf("the turns %v, want 1 and 0", order)
	}
}

func TestEveryOrderPlaysEachRowOnce(t *testing.T) {
	var rows [][]int
	plays := EveryOrder(func(pick func(int) int) {
		row := []int{pick(2)}
		if row[0] == 1 { // what can be picked may hang on what was picked
			row = append(row, pick(3), pick(1))
		}
		rows = append(rows, row)
	})
	want := [][]int{{0}, {1, 0, 0}, {1, 1, 0}, {1, 2, 0}}
	if plays != len(want) || !slices.EqualFunc(rows, want, slices.Equal) {
		t.Errorf("%d plays: %v", plays, rows)
	}
	if plays := EveryOrder(func(func(int) int) {}); plays != 1 {
		t.Errorf("%d plays of nothing to pick", plays)
	}
}

func TestEveryStatePlaysOnFromEachOnce(t *testing.T) {
	type place struct{ x, y int }
	been, ends := map[place]int{}, map[place]int{}
	states := EveryState(func(pick func(int, func() string) int) {
		at := place{}
		for at.x+at.y < 4 {
			k := pick(2, func() string { been[at]++; return fmt.Sprint(at) })
			switch {
			case k < 0 && been[at] < 2:
				t.Errorf("a play was ended at %v, where none had been", at)
			case k < 0:
				return
			case k == 0:
				at.x++
			default:
				at.y++
			}
		}
		ends[at]++
	})
	if states != 10 || len(ends) != 5 {
		t.Errorf("%d states, and the ends %v", states, ends)
	}
	for at, plays := range ends { // an end is come to from each of its neighbours
		if want := min(at.x, 1) + min(at.y, 1); plays != want {
			t.Errorf("%d plays came to %v, want %d", plays, at, want)
		}
	}
	plays := 0
	if states := EveryState(func(func(int, func() string) int) { plays++ }); states != 0 || plays != 1 {
		t.Errorf("%d plays and %d states of nothing to pick", plays, states)
	}
}

// parts is a layer of so many cells a part, 5 and 6 by turns, as it shall be.
func parts(each int) Layout {
	size := func(n int) int {
		if n < 1 || n > 3 {
			return 0
		}
		return each * n
	}
	return Layout{
		Most:  3,
		Cells: func(n int) []uint64 { return slices.Repeat([]uint64{5, 6}, 3*each)[:each*n] },
		Size:  size,
		Make: func(m *cells.Mem, base, n int) (bool, api.Errno) {
			if m == nil || size(n) == 0 || base < 0 || base > m.Len()-size(n) {
				return false, api.ErrArg
			}
			for i := range size(n) {
				m.Store(base+i, uint64(5+i%2))
			}
			return true, api.OK
		},
	}
}

func TestLayoutHoldsRightOnes(t *testing.T) {
	for _, each := range []int{1, 2, 3} {
		parts(each).Hold(t)
	}
}

func TestLayoutTellsOfWrongSizes(t *testing.T) {
	right := parts(2).Size
	for name, size := range map[string]func(n int) int{
		"of none":     func(n int) int { return right(max(n, 1)) },
		"of too many": func(n int) int { return right(min(n, 3)) },
		"too small":   func(n int) int { return max(right(n)-1, 0) },
		"too great":   func(n int) int { return right(n) + 1 },
		"reckoned":    func(n int) int { return 2 * n },
	} {
		l := parts(2)
		l.Size = size
		var told tally
		if l.Hold(&told); !told.Failed() {
			t.Errorf("a Size %s: that wasn't told", name)
		}
	}
}

// asked is what a Make was given, and what is right of it.
type asked struct {
	m       *cells.Mem
	base, n int
	right   bool
}

func TestLayoutTellsOfWrongMakes(t *testing.T) {
	type answer struct {
		made bool
		e    api.Errno
	}
	yes, no := answer{true, api.OK}, answer{false, api.ErrArg}
	for name, wrong := range map[string]func(a asked) (answer, bool){
		"nil is taken":          func(a asked) (answer, bool) { return yes, a.m == nil && a.n > 0 },
		"none is taken":         func(a asked) (answer, bool) { return yes, a.n == 0 },
		"too many are taken":    func(a asked) (answer, bool) { return yes, a.n == 4 },
		"a base below 0":        func(a asked) (answer, bool) { return yes, a.base < 0 },
		"a base without room":   func(a asked) (answer, bool) { return yes, a.m != nil && a.base == a.m.Len()-2*a.n+1 },
		"a greatest base":       func(a asked) (answer, bool) { return yes, a.base > api.MaxCells },
		"the last base isn't":   func(a asked) (answer, bool) { return no, a.m != nil && a.base == a.m.Len()-2*a.n },
		"a base above 0 isn't":  func(a asked) (answer, bool) { return no, a.base > 0 },
		"the most aren't":       func(a asked) (answer, bool) { return no, a.n == 3 },
		"another error":         func(a asked) (answer, bool) { return answer{false, api.ErrNone}, !a.right },
		"made beside an error":  func(a asked) (answer, bool) { return answer{true, api.ErrArg}, !a.right },
		"none made beside OK":   func(a asked) (answer, bool) { return answer{false, api.OK}, a.right },
		"nothing is laid out":   func(a asked) (answer, bool) { return yes, a.right },
		"a refused one stores":  func(a asked) (answer, bool) { return no, !a.right && a.m != nil && a.m.Store(0, 7) == api.OK },
		"a refused one touches": func(a asked) (answer, bool) { return no, !a.right && a.m != nil && a.m.Store(0, 99) == api.OK },
		"a cell behind changes": func(a asked) (answer, bool) { return no, a.right && a.m.Store(a.base+2*a.n, 7) == api.OK && false },
	} {
		l := parts(2)
		right := l.Make
		l.Make = func(m *cells.Mem, base, n int) (bool, api.Errno) {
			there := m != nil && l.Size(n) > 0 && base >= 0 && base <= m.Len()-l.Size(n)
			if w, is := wrong(asked{m, base, n, there}); is {
				return w.made, w.e
			}
			return right(m, base, n)
		}
		var told tally
		if l.Hold(&told); !told.Failed() {
			t.Errorf("%s: that wasn't told", name)
		}
	}
}
