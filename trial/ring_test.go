package trial

import (
	"slices"
	"testing"

	"troupe/api"
)

// ringRun steps an operation till it is over, or has done so many steps, and counts them.
func ringRun(held []uint64, p *RingOp, most int) (steps int) {
	for p.Outcome == api.Pending && steps < most {
		p.Step(held)
		steps++
	}
	return steps
}

// The examples of chapter 3.
func TestRingOpsOfTheChaptersExamples(t *testing.T) {
	held := make([]uint64, 6)
	for i, c := range []struct {
		kind           int
		v              uint64
		steps, outcome int
		value, ticket  uint64
	}{
		{RingLook, 0, 2, api.None, 0, 0},
		{RingPut, 7, 5, api.Done, 0, 0}, {RingPut, 8, 5, api.Done, 0, 1}, {RingPut, 9, 2, api.Full, 0, 0},
		{RingLook, 0, 2, api.Done, 0, 0},
		{RingTake, 0, 5, api.Done, 7, 0}, {RingPut, 9, 5, api.Done, 0, 2},
		{RingClose, 0, 2, api.Done, 0, 0}, {RingClose, 0, 1, api.Done, 0, 0}, {RingPut, 1, 1, api.Closed, 0, 0},
		{RingDrain, 0, 6, api.Done, 8, 0}, {RingDrain, 0, 6, api.Done, 9, 0}, {RingDrain, 0, 2, api.Ended, 0, 0}, {RingTake, 0, 2, api.None, 0, 0},
	} {
		p := &RingOp{Kind: c.kind, Slots: 2, V: c.v}
		if steps := ringRun(held, p, 9); steps != c.steps || p.Outcome != c.outcome || p.Value != c.value || p.Ticket != c.ticket {
			t.Errorf("operation %d: %d steps, %d, value %d, ticket %d", i, steps, p.Outcome, p.Value, p.Ticket)
		}
		before := slices.Clone(held)
		if p.Step(held); p.Outcome != c.outcome || !slices.Equal(held, before) {
			t.Errorf("operation %d goes on when it is over", i)
		}
	}
	if want := []uint64{1<<63 + 3, 3, 4, 9, 2, 8}; !slices.Equal(held, want) {
		t.Errorf("the cells hold %v, want %v", held, want)
	}
}

// What has changed since it was loaded sends an operation back.
func TestRingOpsThatGoOnAtTheirBeginning(t *testing.T) {
	held := make([]uint64, 6)
	late, closing := &RingOp{Kind: RingPut, Slots: 2, V: 7}, &RingOp{Kind: RingClose, Slots: 2}
	ringRun(held, late, 2)
	ringRun(held, closing, 1)
	ringRun(held, &RingOp{Kind: RingPut, Slots: 2, V: 8}, 9)
	if steps := ringRun(held, late, 9); steps != 6 || late.Outcome != api.Done || late.Ticket != 1 {
		t.Errorf("a Put: %d steps behind the second one, %d, ticket %d", steps, late.Outcome, late.Ticket)
	}
	if steps := ringRun(held, closing, 9); steps != 3 || closing.Outcome != api.Done || held[0] != 1<<63+2 {
		t.Errorf("a Close: %d steps behind the first one, %d; the tail is %d", steps, closing.Outcome, held[0])
	}
	ahead := &RingOp{Kind: RingPut, Slots: 1}
	if ringRun([]uint64{0, 0, 1, 0}, ahead, 20); ahead.Outcome != api.Pending {
		t.Errorf("a Put whose slot's turn is ahead: %d", ahead.Outcome)
	}
}
