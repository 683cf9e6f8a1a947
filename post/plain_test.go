package post_test

import (
	"testing"

	"troupe/api"
	"troupe/cells"
	"troupe/post"
	"troupe/trial"
)

const edge = uint64(1) << 63 // what a closed ring's tail has beside the ticket

// What an operation of a box is.
const (
	tell = iota
	push
	ask
	beginning
	fetch
	note
	settle
	settleHeld
	again
	closing
	drain
	shut
	gone
	kinds
)

var names = [kinds]string{"Tell", "Push", "Ask", "Begin", "Fetch", "Note", "Settle(false)", "Settle(true)", "Again", "Close", "Drain", "Shut", "Gone"}

func begin(b *post.Box, kind int, v uint64) *post.Op {
	switch kind {
	case tell:
		return b.Tell(v)
	case push:
		return b.Push(v)
	case ask:
		return b.Ask(v)
	case settle, settleHeld:
		return b.Settle(kind == settleHeld)
	}
	return map[int]func() *post.Op{beginning: b.Begin, fetch: b.Fetch, note: b.Note, again: b.Again, closing: b.Close, drain: b.Drain, shut: b.Shut, gone: b.Gone}[kind]()
}

// Where an operation is that goes through more than one part.
const (
	atAsked = iota
	atPut
	atLoad
	atSwap
	atStore
	atNotes
	atMail
)

// size is how many slots a box's rings have.
type size struct{ mail, notes int }

// plain is an operation as the chapter's words have it. It goes on in numbers instead of cells.
type plain struct {
	kind    int
	size    size
	v       uint64
	at      int
	ring    *trial.RingOp // the ring's operation that is under way
	s       uint64        // the status, as it was loaded or stored
	outcome int
	value   uint64
}

func plainly(kind int, in size, v uint64) *plain {
	p := &plain{kind: kind, size: in, v: v}
	switch kind {
	case tell, push:
		p.at = atPut
	case settle, settleHeld:
		p.at = atStore
	}
	return p
}

func (p *plain) step(held []uint64) {
	if p.outcome != api.Pending {
		return
	}
	switch p.kind {
	case tell, push, ask:
		p.bring(held)
	case settle, settleHeld:
		p.settle(held)
	case fetch:
		p.outcome = p.ofMail(held, trial.RingTake)
	case note:
		p.outcome = p.ofNotes(held, trial.RingTake)
	case drain:
		p.outcome = p.ofMail(held, trial.RingDrain)
	case closing:
		p.outcome = p.ofMail(held, trial.RingClose)
	case beginning:
		held[0], p.outcome = 2, api.Done
	case again:
		held[0], p.outcome = 1, api.Done
	case shut:
		held[0], p.outcome = 4, api.Done
	case gone:
		if p.outcome = api.None; held[0] == 4 {
			p.outcome = api.Done
		}
	}
}

// ofMail does the next access of an operation of the mail, and tells what that has come to.
func (p *plain) ofMail(held []uint64, kind int) int {
	return p.ofRing(held[2:], kind, p.size.mail)
}

func (p *plain) ofNotes(held []uint64, kind int) int {
	return p.ofRing(held[4+2*p.size.mail:], kind, p.size.notes)
}

func (p *plain) ofRing(held []uint64, kind, slots int) int {
	if p.ring == nil {
		p.ring = &trial.RingOp{Kind: kind, Slots: uint64(slots), V: p.v}
	}
	o := p.ring
	if o.Step(held); o.Outcome != api.Pending {
		p.ring, p.value = nil, o.Value
	}
	return o.Outcome
}

// bring is a Tell, a Push or an Ask.
func (p *plain) bring(held []uint64) {
	switch p.at {
	case atAsked:
		if p.at = atPut; held[1] != 0 {
			p.outcome = api.None
		} else {
			held[1] = 1
		}
	case atPut:
		put := p.ofNotes
		if p.kind == tell {
			put = p.ofMail
		}
		if outcome := put(held, trial.RingPut); outcome == api.Done {
			p.at = atLoad
		} else {
			p.outcome = outcome
		}
	case atLoad:
		p.s, p.at = held[0], atSwap
		if p.s != 0 && (p.s != 3 || p.kind == tell) {
			p.outcome = api.Done
		}
	case atSwap:
		if p.at = atLoad; held[0] == p.s {
			held[0], p.outcome = 1, api.Rouse
		}
	}
}

func (p *plain) settle(held []uint64) {
	switch p.at {
	case atStore:
		if p.at = atNotes; p.kind == settleHeld {
			p.s = 3
		}
		held[0] = p.s
	case atNotes:
		switch look := p.ofNotes(held, trial.RingLook); {
		case look == api.Done:
			p.at = atSwap
		case look == api.None && p.s == 3:
			p.outcome = api.None
		case look == api.None:
			p.at = atMail
		}
	case atMail:
		if look := p.ofMail(held, trial.RingLook); look == api.Done {
			p.at = atSwap
		} else {
			p.outcome = look
		}
	case atSwap:
		if p.outcome = api.Done; held[0] == p.s {
			held[0], p.outcome = 1, api.More
		}
	}
}

func laid(t *testing.T, m *cells.Mem, base, mail, notes int) *post.Box {
	t.Helper()
	b, e := post.Make(m, base, mail, notes)
	if b == nil || e != api.OK {
		t.Fatalf("Make(%d cells, %d, %d, %d) = %v, %d", m.Len(), base, mail, notes, b, e)
	}
	return b
}

// fresh makes a box in a memory that has no other cell.
func fresh(t *testing.T, mail, notes int) (*cells.Mem, *post.Box) {
	t.Helper()
	m := cells.New(post.Size(mail, notes))
	return m, laid(t, m, 0, mail, notes)
}

// holding makes a memory that holds these numbers, and in it a box of one slot of mail and one of notes, which thus is as it never may have become.
func holding(t *testing.T, held ...uint64) (*cells.Mem, *post.Box) {
	t.Helper()
	m, b := fresh(t, 1, 1)
	for i, v := range held {
		m.Store(i, v)
	}
	return m, b
}

func wantTold(t *testing.T, name string, o *post.Op, outcome int, value uint64) {
	if o.Over() != (outcome != api.Pending) || o.Outcome() != outcome || o.Value() != value {
		t.Helper() // only here, since it takes long
		t.Errorf("%s: over %t, outcome %d, value %d, want outcome %d, value %d", name, o.Over(), o.Outcome(), o.Value(), outcome, value)
	}
}

// wantRun steps an operation that nobody hinders till it is over.
func wantRun(t *testing.T, name string, o *post.Op, steps, outcome int, value uint64) {
	t.Helper()
	if n := trial.Run(t, o); n != steps {
		t.Errorf("%s: %d steps, want %d", name, n, steps)
	}
	wantTold(t, name, o, outcome, value)
}
