// Package trial is for the layers' tests: it steps operations, plays them in all orders, and holds errors against their places.
package trial

import (
	"math"
	"slices"

	"troupe/api"
	"troupe/cells"
)

// T is what is asked of a test; package testing itself is none that the program may import.
type T interface {
	Helper()
	Errorf(format string, args ...any)
	Fatalf(format string, args ...any)
	Failed() bool
}

// Op is an operation of any layer.
type Op interface {
	Step() bool
	Over() bool
}

const (
	mostSteps  = 1000 // steps of an operation that nobody hinders are far fewer
	mostTurns  = 2000 // and so are the turns of all that a test lets step
	mixedTurns = 500
	mixedOps   = 4
	seldom     = 100
)

// Run steps o till it is over, and counts the steps.
func Run(t T, o Op) int {
	t.Helper()
	for n := 1; n <= mostSteps; n++ {
		if o.Step() {
			return n
		}
	}
	t.Fatalf("an operation that nobody hinders doesn't end")
	return 0
}

// Cells holds all cells against what they shall hold. (It is asked so often that it calls Helper, which takes long, only where it tells something; so is One.)
func Cells(t T, m *cells.Mem, want ...uint64) {
	if got := m.All(); !slices.Equal(got, want) {
		t.Helper()
		t.Errorf("the cells hold %v, want %v", got, want)
	}
}

// One steps o once: that is one access, or none if it was over, and Step tells what Over tells.
func One(t T, m *cells.Mem, o Op) bool {
	accesses, touched := 1, m.Touched()
	if o.Over() {
		accesses = 0
	}
	over := o.Step()
	if m.Touched() != touched+accesses {
		t.Helper()
		t.Errorf("%d accesses, want %d", m.Touched()-touched, accesses)
	}
	if over != o.Over() {
		t.Helper()
		t.Errorf("Step tells %t, and Over %t", over, o.Over())
	}
	return over
}

// Steps steps o, and holds all cells against what they shall hold behind each step: each is one access, and at the last one o is over.
func Steps(t T, m *cells.Mem, o Op, behind ...[]uint64) {
	t.Helper()
	for i, want := range behind {
		if over := One(t, m, o); over != (i == len(behind)-1) {
			t.Errorf("step %d of %d: over %t", i+1, len(behind), over)
		}
		if got := m.All(); !slices.Equal(got, want) {
			t.Errorf("behind step %d the cells hold %v, want %v", i+1, got, want)
		}
	}
}

// Twins are an operation and what a chapter's words make of it, which goes on in numbers instead of cells.
type Twins struct {
	Op    Op
	Plain func(held []uint64) // does the next access; nothing, if that one is over
	Same  func()              // holds what one tells against what the other one tells
}

// Mixed steps operations in an order that is picked, and begins others when they are over; it holds them against their twins behind each step, and all cells too. At one of so many turns as meddles says, at none if it is 0, somebody lets a cell hold an odd number. It ends at the turn that fails.
func Mixed(t T, m *cells.Mem, pick func(n int) int, begin func() Twins, meddles int, odd func(held []uint64) uint64) {
	t.Helper()
	held, under := m.All(), make([]Twins, mixedOps)
	for turn := range mixedTurns {
		now := &under[pick(len(under))]
		if now.Op == nil || now.Op.Over() && pick(4) > 0 { // some that are over are stepped once more
			*now = begin()
		}
		if meddles > 0 && pick(meddles) == 0 {
			cell, v := pick(len(held)), odd(held)
			m.Store(cell, v)
			held[cell] = v
		}
		One(t, m, now.Op)
		now.Plain(held)
		now.Same()
		Cells(t, m, held...)
		if t.Failed() {
			t.Errorf("that was turn %d", turn+1)
			return
		}
	}
}

// Odd picks a number that stands near to one that matters to a ring or a gate: to what the cells hold, or to an end of the numbers.
func Odd(pick func(n int) int, held []uint64) uint64 {
	near := uint64(pick(5)) - 2
	switch cell := held[pick(len(held))]; pick(4) {
	case 0:
		return near
	case 1:
		return 1<<63 + near
	case 2:
		return 2*cell + near
	default:
		return cell + near
	}
}

// Met sees to it that none of these kinds has come to its outcome too seldom to tell anything.
func Met(t T, met map[[2]int]int, wanted [][2]int) {
	t.Helper()
	for _, k := range wanted {
		if met[k] < seldom {
			t.Errorf("kind %d has come to outcome %d but %d times", k[0], k[1], met[k])
		}
	}
}

// Turns lets threads step that still go, whichever is picked, till none goes, and answers whose turns these were; it ends at the turn that fails, and at a pick below 0.
func Turns(t T, threads int, goes func(k int) bool, step func(k int), pick func(n int) int) (order []int) {
	t.Helper()
	for !t.Failed() {
		var going []int
		for k := range threads {
			if goes(k) {
				going = append(going, k)
			}
		}
		if len(going) == 0 {
			return order
		}
		if len(order) == mostTurns {
			t.Errorf("threads that don't end")
			return order
		}
		at := pick(len(going))
		if at < 0 {
			return order
		}
		order = append(order, going[at])
		step(going[at])
	}
	return order
}

// rows goes through all rows of picks that there can be.
type rows struct {
	picks, of []int
	at        int
}

// again tells whether the next pick of this play was one of the play ahead of it, too.
func (r *rows) again() bool { return r.at < len(r.picks) }

func (r *rows) pick(n int) int {
	if !r.again() {
		r.picks, r.of = append(r.picks, 0), append(r.of, n)
	}
	r.at++
	return r.picks[r.at-1]
}

// on goes on to the next row, and tells whether there is one.
func (r *rows) on() bool {
	last := len(r.picks) - 1
	for last >= 0 && r.picks[last] == r.of[last]-1 {
		last--
	}
	r.picks, r.of, r.at = r.picks[:last+1], r.of[:last+1], 0
	if last < 0 {
		return false
	}
	r.picks[last]++
	return true
}

// EveryOrder plays once for each row of picks that there can be: pick(n) answers one of the numbers from 0 to n - 1.
func EveryOrder(play func(pick func(n int) int)) (plays int) {
	r := &rows{}
	for {
		play(r.pick)
		plays++
		if !r.on() {
			return plays
		}
	}
}

// EveryState is EveryOrder of plays that say how all stands ahead of each pick: one that comes to where another one has been is told -1, and ends there, since all that could come was played by that one.
func EveryState(play func(pick func(n int, state func() string) int)) (states int) {
	r, seen := &rows{}, map[string]struct{}{}
	for {
		play(func(n int, state func() string) int {
			if !r.again() {
				now := state()
				if _, been := seen[now]; been {
					return -1
				}
				seen[now] = struct{}{}
			}
			return r.pick(n)
		})
		if !r.on() {
			return len(seen)
		}
	}
}

// Layout is a layer's Size and Make, of n parts, and what its chapter says of them.
type Layout struct {
	Most  int                  // how many parts there can be
	Cells func(n int) []uint64 // what the cells hold, once they are laid out
	Size  func(n int) int
	Make  func(m *cells.Mem, base, n int) (made bool, e api.Errno)
}

// Hold holds Size and Make against what the chapter says.
func (l Layout) Hold(t T) {
	t.Helper()
	for _, n := range l.outside() {
		l.sized(t, n, 0)
		l.refused(t, 2*len(l.Cells(l.Most)), 0, n)
	}
	for n := 1; n <= l.Most; n++ {
		l.within(t, n)
	}
	l.laid(t, api.MaxCells, api.MaxCells-len(l.Cells(l.Most)), l.Most)
	for _, c := range [][2]int{{0, 1}, {0, l.Most}, {-1, 0}} {
		if made, e := l.Make(nil, c[0], c[1]); made || e != api.ErrArg {
			t.Errorf("Make(nil, %d, %d): made %t, %d", c[0], c[1], made, e)
		}
	}
}

// within holds Size and Make of n parts, which there can be, in memories that are just great enough or nearly.
func (l Layout) within(t T, n int) {
	t.Helper()
	size := len(l.Cells(n))
	room := size + 3
	l.sized(t, n, size)
	for _, base := range []int{0, 1, 2, 3} {
		l.laid(t, room, base, n)
	}
	for _, base := range []int{math.MinInt, -size, -1, 4, 5, max(room-1, 4), room, room + 1, math.MaxInt - size, math.MaxInt - size + 1, math.MaxInt} {
		l.refused(t, room, base, n)
	}
	l.laid(t, size, 0, n)
	l.refused(t, size-1, 0, n)
	l.refused(t, 0, 0, n)
}

func (l Layout) sized(t T, n, want int) {
	t.Helper()
	if got := l.Size(n); got != want {
		t.Errorf("Size(%d) = %d, want %d", n, got, want)
	}
}

// outside are numbers of parts that there can't be, those among them of which a size, reckoned, would wrap.
func (l Layout) outside() []int {
	return []int{math.MinInt, math.MinInt / 2, -l.Most, -2, -1, 0, l.Most + 1, 2 * l.Most, api.MaxCells, math.MaxInt / 2, math.MaxInt/2 + 1, math.MaxInt - 1, math.MaxInt}
}

// filled makes a memory all of whose cells hold a number that no layer lays out.
func filled(n int) *cells.Mem {
	m := cells.New(n)
	for i := range m.Len() {
		m.Store(i, 99)
	}
	return m
}

func (l Layout) refused(t T, room, base, n int) {
	t.Helper()
	m := filled(room)
	touched := m.Touched()
	if made, e := l.Make(m, base, n); made || e != api.ErrArg {
		t.Errorf("Make(%d cells, %d, %d): made %t, %d", room, base, n, made, e)
	}
	if m.Touched() != touched || !slices.Equal(m.All(), filled(room).All()) {
		t.Errorf("Make(%d cells, %d, %d): refused, and yet the memory was touched", room, base, n)
	}
}

func (l Layout) laid(t T, room, base, n int) {
	t.Helper()
	m := filled(room)
	want := m.All()
	copy(want[base:], l.Cells(n))
	if made, e := l.Make(m, base, n); !made || e != api.OK {
		t.Errorf("Make(%d cells, %d, %d): made %t, %d", room, base, n, made, e)
	}
	if !slices.Equal(m.All(), want) {
		t.Errorf("Make(%d cells, %d, %d) has laid out %v", room, base, n, m.All())
	}
}
