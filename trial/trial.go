// Package trial is for the layers' tests: it steps operations, and plays them in all orders.
package trial

import (
	"slices"

	"troupe/cells"
)

// T is what is asked of a test; package testing itself is none that the program may import.
type T interface {
	Helper()
	Errorf(format string, args ...any)
	Fatalf(format string, args ...any)
}

// Op is an operation of any layer.
type Op interface {
	Step() bool
	Over() bool
}

const most = 1000 // steps of an operation that nobody hinders are far fewer

// Run steps o till it is over, and counts the steps.
func Run(t T, o Op) int {
	t.Helper()
	for n := 1; n <= most; n++ {
		if o.Step() {
			return n
		}
	}
	t.Fatalf("an operation that nobody hinders doesn't end")
	return 0
}

// Cells holds all cells against what they shall hold.
func Cells(t T, m *cells.Mem, want ...uint64) {
	t.Helper()
	if got := m.All(); !slices.Equal(got, want) {
		t.Errorf("the cells hold %v, want %v", got, want)
	}
}

// Steps steps o, and holds all cells against what they shall hold behind each step: each is one access, and at the last one o is over.
func Steps(t T, m *cells.Mem, o Op, behind ...[]uint64) {
	t.Helper()
	for i, want := range behind {
		touched := m.Touched()
		if over := o.Step(); over != (i == len(behind)-1) || o.Over() != over {
			t.Errorf("step %d of %d: over %t", i+1, len(behind), over)
		}
		if m.Touched() != touched+1 {
			t.Errorf("step %d: %d accesses", i+1, m.Touched()-touched)
		}
		if got := m.All(); !slices.Equal(got, want) {
			t.Errorf("behind step %d the cells hold %v, want %v", i+1, got, want)
		}
	}
}

// EveryOrder plays once for each row of picks that there can be: pick(n) answers one of the numbers from 0 to n - 1.
func EveryOrder(play func(pick func(n int) int)) (plays int) {
	var picks, of []int
	for {
		at := 0
		of = of[:0]
		play(func(n int) int {
			if at == len(picks) {
				picks = append(picks, 0)
			}
			of = append(of, n)
			at++
			return picks[at-1]
		})
		plays++
		for len(picks) > 0 && picks[len(picks)-1] == of[len(picks)-1]-1 {
			picks = picks[:len(picks)-1]
		}
		if len(picks) == 0 {
			return plays
		}
		picks[len(picks)-1]++
	}
}
