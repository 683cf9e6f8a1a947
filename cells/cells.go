// Package cells is layer 1: see shared/doc/01-cells.md.
package cells

import "troupe/api"

// Mem is a memory of cells.
type Mem struct {
	cells   []uint64
	touched int
}

// New makes a memory of n cells that hold 0; a number beyond its range becomes the nearest one within.
func New(n int) *Mem {
	return &Mem{cells: make([]uint64, min(max(n, 0), api.MaxCells))}
}

// Len tells how many cells there are.
func (m *Mem) Len() int { return len(m.cells) }

func (m *Mem) has(i int) bool { return 0 <= i && i < len(m.cells) }

// access is the one way to a cell that counts, so that no call can touch one unseen; it answers nil, uncounted, of one that there isn't.
func (m *Mem) access(i int) *uint64 {
	if !m.has(i) {
		return nil
	}
	m.touched++
	return &m.cells[i]
}

// Load answers what the cell holds.
func (m *Mem) Load(i int) (uint64, api.Errno) {
	cell := m.access(i)
	if cell == nil {
		return 0, api.ErrArg
	}
	return *cell, api.OK
}

// Store lets the cell hold v.
func (m *Mem) Store(i int, v uint64) api.Errno {
	cell := m.access(i)
	if cell == nil {
		return api.ErrArg
	}
	*cell = v
	return api.OK
}

// Swap lets the cell hold v if it holds old, and tells whether it did.
func (m *Mem) Swap(i int, old, v uint64) (bool, api.Errno) {
	cell := m.access(i)
	if cell == nil {
		return false, api.ErrArg
	}
	if *cell != old {
		return false, api.OK
	}
	*cell = v
	return true, api.OK
}

// Add adds d to what the cell holds, modulo 2^64, and answers the sum.
func (m *Mem) Add(i int, d uint64) (uint64, api.Errno) {
	cell := m.access(i)
	if cell == nil {
		return 0, api.ErrArg
	}
	*cell += d
	return *cell, api.OK
}

// Touched tells how many accesses there were.
func (m *Mem) Touched() int { return m.touched }

// Peek answers what the cell holds, 0 of one that there isn't; it is no access.
func (m *Mem) Peek(i int) uint64 {
	if !m.has(i) {
		return 0
	}
	return m.cells[i]
}

// All answers what the cells hold, in order; it is no access.
func (m *Mem) All() []uint64 {
	all := make([]uint64, len(m.cells))
	copy(all, m.cells)
	return all
}
