package trial

import "troupe/api"

// What an operation on a ring is.
const (
	RingPut = iota
	RingTake
	RingDrain
	RingLook
	RingClose
	RingKinds // how many there are
)

const ringClosed = 1 << 63 // what a closed ring's tail has beside the ticket

// RingOp is an operation on a ring as chapter 3's words have it: which access is its next one, by the chapter's numbers. It goes on in numbers instead of cells.
type RingOp struct {
	Kind          int
	Slots         uint64
	V             uint64 // what a Put puts
	Outcome       int
	Value, Ticket uint64

	access  int
	t, h, v uint64
}

// Step does the next access, in the numbers that the ring's cells hold; nothing, if the operation is over.
func (p *RingOp) Step(held []uint64) {
	if p.Outcome != api.Pending {
		return
	}
	p.access++
	switch p.Kind {
	case RingPut:
		p.put(held, 2+2*(p.t%p.Slots), p.t/p.Slots)
	case RingTake:
		p.take(held, p.access, 2+2*(p.h%p.Slots), p.h/p.Slots)
	case RingDrain:
		p.drain(held)
	case RingLook:
		if p.take(held, p.access, 2+2*(p.h%p.Slots), p.h/p.Slots); p.access == 2 && p.Outcome == api.Pending {
			p.Outcome = api.Done
		}
	case RingClose:
		p.close(held)
	}
}

func (p *RingOp) put(held []uint64, slot, r uint64) {
	switch p.access {
	case 1:
		if p.t = held[0]; p.t >= ringClosed {
			p.Outcome = api.Closed
		}
	case 2:
		if s := held[slot]; s > 2*r {
			p.access = 0
		} else if s < 2*r {
			p.Outcome = api.Full
		}
	case 3:
		if held[0] == p.t {
			held[0] = p.t + 1
		} else {
			p.access = 0
		}
	case 4:
		held[slot+1] = p.V
	case 5:
		held[slot] = 2*r + 1
		p.Outcome, p.Ticket = api.Done, p.t
	}
}

func (p *RingOp) take(held []uint64, access int, slot, r uint64) {
	switch access {
	case 1:
		p.h = held[1]
	case 2:
		if held[slot] != 2*r+1 {
			p.Outcome = api.None
		}
	case 3:
		p.v = held[slot+1]
	case 4:
		held[slot] = 2*r + 2
	case 5:
		held[1] = p.h + 1
		p.Outcome, p.Value = api.Done, p.v
	}
}

func (p *RingOp) drain(held []uint64) {
	switch p.access {
	case 1:
		p.t = held[0]
	case 2:
		if p.h = held[1]; p.t == p.h+ringClosed {
			p.Outcome = api.Ended
		}
	default:
		p.take(held, p.access-1, 2+2*(p.h%p.Slots), p.h/p.Slots)
	}
}

func (p *RingOp) close(held []uint64) {
	switch p.access {
	case 1:
		if p.t = held[0]; p.t >= ringClosed {
			p.Outcome = api.Done
		}
	case 2:
		if held[0] == p.t {
			held[0] = p.t + ringClosed
			p.Outcome = api.Done
		} else {
			p.access = 0
		}
	}
}
