// Package trial is for the layers' tests: it steps operations, plays them in all orders, and holds errors against their places.
package trial

import (
	"math"
	"slices"

	"troupe/api"
	"troupe/cells"
)

// T is what is asked of a test; package testing itself is none that the program may import.
type T interface {
	Helper()
	Errorf(format string, args ...any)
	Fatalf(format string, args ...any)
	Failed() bool
}

// Op is an operation of any layer.
type Op interface {
	Step() bool
	Over() bool
}

const (
	mostSteps  = 1000 // steps of an operation that nobody hinders are far fewer
	mostTurns  = 2000 // and so are the turns of all that a test lets step
	mixedTurns = 500
	mixedOps   = 4
)

// Run steps o till it is over, and counts the steps.
func Run(t T, o Op) int {
	t.Helper()
	for n := 1; n <= mostSteps; n++ {
		if o.Step() {
			return n
		}
	}
	t.Fatalf("an operation that nobody hinders doesn't end")
	return 0
}

// Cells holds all cells against what they shall hold.
func Cells(t T, m *cells.Mem, want ...uint64) {
	t.Helper()
	if got := m.All(); !slices.Equal(got, want) {
		t.Errorf("the cells hold %v, want %v", got, want)
	}
}

// One steps o once: that is one access, or none if it was over, and Step tells what Over tells.
func One(t T, m *cells.Mem, o Op) bool {
	t.Helper()
	accesses, touched := 1, m.Touched()
	if o.Over() {
		accesses = 0
	}
	over := o.Step()
	if m.Touched() != touched+accesses {
		t.Errorf("%d accesses, want %d", m.Touched()-touched, accesses)
	}
	if over != o.Over() {
		t.Errorf("Step tells %t, and Over %t", over, o.Over())
	}
	return over
}

// Steps steps o, and holds all cells against what they shall hold behind each step: each is one access, and at the last one o is over.
func Steps(t T, m *cells.Mem, o Op, behind ...[]uint64) {
	t.Helper()
	for i, want := range behind {
		if over := One(t, m, o); over != (i == len(behind)-1) {
			t.Errorf("step %d of %d: over %t", i+1, len(behind), over)
		}
		if got := m.All(); !slices.Equal(got, want) {
			t.Errorf("behind step %d the cells hold %v, want %v", i+1, got, want)
		}
	}
}

// Twins are an operation and what a chapter's words make of it, which goes on in numbers instead of cells.
type Twins struct {
	Op    Op
	Plain func(held []uint64) // does the next access; nothing, if that one is over
	Same  func()              // holds what one tells against what the other one tells
}

// Mixed steps operations in an order that is picked, and begins others when they are over; it holds them against their twins behind each step, and all cells too. At one of so many turns as meddles says, at none if it is 0, somebody lets a cell hold an odd number. It ends at the turn that fails.
func Mixed(t T, m *cells.Mem, pick func(n int) int, begin func() Twins, meddles int, odd func(held []uint64) uint64) {
	t.Helper()
	held, under := m.All(), make([]Twins, mixedOps)
	for turn := range mixedTurns {
		now := &under[pick(len(under))]
		if now.Op == nil || now.Op.Over() && pick(4) > 0 { // some that are over are stepped once more
			*now = begin()
		}
		if meddles > 0 && pick(meddles) == 0 {
			cell, v := pick(len(held)), odd(held)
			m.Store(cell, v)
			held[cell] = v
		}
		One(t, m, now.Op)
		now.Plain(held)
		now.Same()
		Cells(t, m, held...)
		if t.Failed() {
			t.Errorf("that was turn %d", turn+1)
			return
		}
	}
}

// Turns lets threads step that still go, whichever is picked, till none goes, and answers whose turns these were; it ends at the turn that fails.
func Turns(t T, threads int, goes func(k int) bool, step func(k int), pick func(n int) int) (order []int) {
	t.Helper()
	for !t.Failed() {
		var going []int
		for k := range threads {
			if goes(k) {
				going = append(going, k)
			}
		}
		if len(going) == 0 {
			return order
		}
		if len(order) == mostTurns {
			t.Errorf("threads that don't end")
			return order
		}
		k := going[pick(len(going))]
		order = append(order, k)
		step(k)
	}
	return order
}

// EveryOrder plays once for each row of picks that there can be: pick(n) answers one of the numbers from 0 to n - 1.
func EveryOrder(play func(pick func(n int) int)) (plays int) {
	var picks, of []int
	for {
		at := 0
		of = of[:0]
		play(func(n int) int {
			if at == len(picks) {
				picks = append(picks, 0)
			}
			of = append(of, n)
			at++
			return picks[at-1]
		})
		plays++
		for len(picks) > 0 && picks[len(picks)-1] == of[len(picks)-1]-1 {
			picks = picks[:len(picks)-1]
		}
		if len(picks) == 0 {
			return plays
		}
		picks[len(picks)-1]++
	}
}

// Layout is a layer's Size and Make, of n parts, and what its chapter says of them.
type Layout struct {
	Most  int                  // how many parts there can be
	Cells func(n int) []uint64 // what the cells hold, once they are laid out
	Size  func(n int) int
	Make  func(m *cells.Mem, base, n int) (made bool, e api.Errno)
}

// Hold holds Size and Make against what the chapter says.
func (l Layout) Hold(t T) {
	t.Helper()
	for _, n := range l.outside() {
		l.sized(t, n, 0)
		l.refused(t, 2*len(l.Cells(l.Most)), 0, n)
	}
	for n := 1; n <= l.Most; n++ {
		l.within(t, n)
	}
	l.laid(t, api.MaxCells, api.MaxCells-len(l.Cells(l.Most)), l.Most)
	for _, c := range [][2]int{{0, 1}, {0, l.Most}, {-1, 0}} {
		if made, e := l.Make(nil, c[0], c[1]); made || e != api.ErrArg {
			t.Errorf("Make(nil, %d, %d): made %t, %d", c[0], c[1], made, e)
		}
	}
}

// within holds Size and Make of n parts, which there can be, in memories that are just great enough or nearly.
func (l Layout) within(t T, n int) {
	t.Helper()
	size := len(l.Cells(n))
	room := size + 3
	l.sized(t, n, size)
	for _, base := range []int{0, 1, 2, 3} {
		l.laid(t, room, base, n)
	}
	for _, base := range []int{math.MinInt, -size, -1, 4, 5, max(room-1, 4), room, room + 1, math.MaxInt - size, math.MaxInt - size + 1, math.MaxInt} {
		l.refused(t, room, base, n)
	}
	l.laid(t, size, 0, n)
	l.refused(t, size-1, 0, n)
	l.refused(t, 0, 0, n)
}

func (l Layout) sized(t T, n, want int) {
	t.Helper()
	if got := l.Size(n); got != want {
		t.Errorf("Size(%d) = %d, want %d", n, got, want)
	}
}

// outside are numbers of parts that there can't be, those among them of which a size, reckoned, would wrap.
func (l Layout) outside() []int {
	return []int{math.MinInt, math.MinInt / 2, -l.Most, -2, -1, 0, l.Most + 1, 2 * l.Most, api.MaxCells, math.MaxInt / 2, math.MaxInt/2 + 1, math.MaxInt - 1, math.MaxInt}
}

// filled makes a memory all of whose cells hold a number that no layer lays out.
func filled(n int) *cells.Mem {
	m := cells.New(n)
	for i := range m.Len() {
		m.Store(i, 99)
	}
	return m
}

func (l Layout) refused(t T, room, base, n int) {
	t.Helper()
	m := filled(room)
	touched := m.Touched()
	if made, e := l.Make(m, base, n); made || e != api.ErrArg {
		t.Errorf("Make(%d cells, %d, %d): made %t, %d", room, base, n, made, e)
	}
	if m.Touched() != touched || !slices.Equal(m.All(), filled(room).All()) {
		t.Errorf("Make(%d cells, %d, %d): refused, and yet the memory was touched", room, base, n)
	}
}

func (l Layout) laid(t T, room, base, n int) {
	t.Helper()
	m := filled(room)
	want := m.All()
	copy(want[base:], l.Cells(n))
	if made, e := l.Make(m, base, n); !made || e != api.OK {
		t.Errorf("Make(%d cells, %d, %d): made %t, %d", room, base, n, made, e)
	}
	if !slices.Equal(m.All(), want) {
		t.Errorf("Make(%d cells, %d, %d) has laid out %v", room, base, n, m.All())
	}
}
