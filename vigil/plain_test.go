package vigil_test

import (
	"troupe/api"
	"troupe/vigil"
)

// What an operation of a vigil is.
const (
	watch = iota
	unwatch
	claim
	kinds
)

var names = [kinds]string{"Watch", "Unwatch", "Claim"}

func begin(v *vigil.Vigil, kind, x, y int) *vigil.Op {
	switch kind {
	case watch:
		return v.Watch(x, y)
	case unwatch:
		return v.Unwatch(x, y)
	}
	return v.Claim(x, y)
}

// plain is an operation as the chapter's words have it: which access is its next one, by the chapter's numbers. It goes on in numbers instead of cells.
type plain struct {
	kind, cell, access int
	c                  uint64
	outcome            int
}

func plainly(kind, actors, x, y int) *plain {
	p := &plain{kind: kind, cell: (x-1)*actors + y - 1}
	if x < 1 || x > actors || y < 1 || y > actors {
		p.outcome = api.None
	}
	return p
}

// step does the next access; nothing, if the operation is over.
func (p *plain) step(held []uint64) {
	if p.outcome != api.Pending {
		return
	}
	p.access++
	switch p.kind {
	case watch:
		p.watch(held)
	case unwatch:
		p.unwatch(held)
	case claim:
		if p.outcome = api.None; held[p.cell] == 1 {
			held[p.cell], p.outcome = 2, api.Done
		}
	}
}

func (p *plain) watch(held []uint64) {
	switch p.access {
	case 1:
		if p.c = held[p.cell]; p.c == 1 {
			p.outcome = api.None
		}
	case 2:
		if p.access = 0; held[p.cell] == p.c {
			held[p.cell], p.outcome = 1, api.Done
		}
	}
}

func (p *plain) unwatch(held []uint64) {
	switch p.access {
	case 1:
		if held[p.cell] != 1 {
			p.outcome = api.None
		}
	case 2:
		if p.access = 0; held[p.cell] == 1 {
			held[p.cell], p.outcome = 0, api.Done
		}
	}
}
