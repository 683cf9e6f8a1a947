// Package span is what stepped things lie in: cells of a memory that stand in a row.
package span

import "troupe/cells"

// Span is a row of a memory's cells, numbered from 0.
type Span struct {
	m    *cells.Mem
	base int
}

// At answers the row of size cells from base on, and whether there is one; there is none of no cells.
func At(m *cells.Mem, base, size int) (Span, bool) {
	if m == nil || size < 1 || base < 0 || base > m.Len()-size {
		return Span{}, false
	}
	return Span{m: m, base: base}, true
}

// Load needs no errno, nor do Store and Swap: At has seen that the row's cells are there.
func (s Span) Load(i int) uint64 {
	v, _ := s.m.Load(s.base + i)
	return v
}

// Store lets the row's cell i hold v.
func (s Span) Store(i int, v uint64) { s.m.Store(s.base+i, v) }

// Swap lets the row's cell i hold v if it holds old, and tells whether it did.
func (s Span) Swap(i int, old, v uint64) bool {
	ok, _ := s.m.Swap(s.base+i, old, v)
	return ok
}
