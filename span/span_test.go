package span_test

import (
	"math"
	"testing"

	"troupe/api"
	"troupe/cells"
	"troupe/span"
	"troupe/trial"
)

// counted makes a memory whose cells hold 10, 11, 12 and so on.
func counted(n int) *cells.Mem {
	m := cells.New(n)
	for i := range n {
		m.Store(i, uint64(10+i))
	}
	return m
}

func TestAtTellsWhichRowsThereAre(t *testing.T) {
	for _, c := range []struct {
		room, base, size int
		there            bool
	}{
		{5, 0, 5, true}, {5, 0, 1, true}, {5, 4, 1, true}, {5, 2, 3, true},
		{5, 0, 6, false}, {5, 4, 2, false}, {5, 5, 1, false}, {5, -1, 3, false}, {5, -3, 3, false},
		{5, 0, 0, false}, {5, 2, 0, false}, {5, 2, -1, false}, {5, 6, -2, false}, {0, 0, 1, false}, {0, 0, 0, false},
		{5, math.MaxInt, 1, false}, {5, 1, math.MaxInt, false}, {5, math.MaxInt, math.MaxInt, false}, {5, math.MinInt, 1, false}, {5, 0, math.MinInt, false},
		{api.MaxCells, 0, api.MaxCells, true}, {api.MaxCells, 1, api.MaxCells, false},
	} {
		m := counted(c.room)
		touched := m.Touched()
		if _, there := span.At(m, c.base, c.size); there != c.there {
			t.Errorf("At(%d cells, %d, %d): %t", c.room, c.base, c.size, there)
		}
		if m.Touched() != touched {
			t.Errorf("At(%d cells, %d, %d) has touched the memory", c.room, c.base, c.size)
		}
	}
	if _, there := span.At(nil, 0, 1); there {
		t.Error("At(nil, 0, 1): true")
	}
}

func TestEachCallIsOneAccessOfItsCell(t *testing.T) {
	m := counted(5)
	s, _ := span.At(m, 1, 3)
	for i, c := range []struct {
		name   string
		call   func() bool
		behind []uint64
	}{
		{"Load", func() bool { return s.Load(0) == 11 }, []uint64{10, 11, 12, 13, 14}},
		{"Load", func() bool { return s.Load(2) == 13 }, []uint64{10, 11, 12, 13, 14}},
		{"Store", func() bool { s.Store(2, math.MaxUint64); return true }, []uint64{10, 11, 12, math.MaxUint64, 14}},
		{"Swap", func() bool { return s.Swap(0, 11, 7) }, []uint64{10, 7, 12, math.MaxUint64, 14}},
		{"Swap", func() bool { return !s.Swap(0, 11, 8) }, []uint64{10, 7, 12, math.MaxUint64, 14}},
		{"Swap", func() bool { return s.Swap(2, math.MaxUint64, 0) }, []uint64{10, 7, 12, 0, 14}},
	} {
		touched := m.Touched()
		if !c.call() || m.Touched() != touched+1 {
			t.Errorf("call %d, %s: another answer, or %d accesses", i, c.name, m.Touched()-touched)
		}
		trial.Cells(t, m, c.behind...)
	}
}
