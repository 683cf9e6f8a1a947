package post_test

import (
	"fmt"
	"math"
	"slices"
	"testing"

	"troupe/api"
	"troupe/cells"
	"troupe/post"
	"troupe/trial"
)

func TestExamplesOfTheChapter(t *testing.T) {
	_, b := fresh(t, 1, 2)
	wantRun(t, "Tell", b.Tell(7), 7, api.Rouse, 0)
	wantRun(t, "Tell", b.Tell(8), 2, api.Full, 0)
	wantRun(t, "Begin", b.Begin(), 1, api.Done, 0)
	wantRun(t, "Fetch", b.Fetch(), 5, api.Done, 7)
	wantRun(t, "Settle", b.Settle(false), 5, api.None, 0)
	wantRun(t, "Settle", b.Settle(true), 3, api.None, 0)
	wantRun(t, "Tell", b.Tell(9), 6, api.Done, 0)
	wantRun(t, "Push", b.Push(5), 7, api.Rouse, 0)
	wantRun(t, "Ask", b.Ask(1), 7, api.Done, 0)
	wantRun(t, "Ask", b.Ask(1), 1, api.None, 0)
}

// The statuses that there are, and others that only somebody else can have brought about.
var statuses = []uint64{post.Idle, post.Ready, post.Running, post.Held, post.Shut, 5, 1 << 32, 1<<32 + 3, edge, math.MaxUint64}

// P18.1: both rings' Sizes, of all numbers of slots.
func TestSizeAndMake(t *testing.T) {
	for _, other := range []int{1, 2, 17, api.MaxSlots} {
		box := func(slots int) []uint64 { return make([]uint64, 2+2+2*slots+2+2*other) }
		trial.Layout{
			Most:  api.MaxSlots,
			Cells: box,
			Size:  func(mail int) int { return post.Size(mail, other) },
			Make: func(m *cells.Mem, base, mail int) (bool, api.Errno) {
				b, e := post.Make(m, base, mail, other)
				return b != nil, e
			},
		}.Hold(t)
		trial.Layout{
			Most:  api.MaxSlots,
			Cells: box,
			Size:  func(notes int) int { return post.Size(other, notes) },
			Make: func(m *cells.Mem, base, notes int) (bool, api.Errno) {
				b, e := post.Make(m, base, other, notes)
				return b != nil, e
			},
		}.Hold(t)
	}
}

// P18.1: of one ring that there can't be, or both.
func TestSizesThatThereArent(t *testing.T) {
	m := cells.New(api.MaxCells)
	wrong := []int{math.MinInt, math.MinInt / 2, -1 << 32, -3, -2, -1, 0, api.MaxSlots + 1, 1 << 31, 1<<32 + 1, math.MaxInt / 2, math.MaxInt - 2, math.MaxInt}
	for _, a := range wrong {
		for _, c := range append([]int{1, api.MaxSlots}, wrong...) {
			for _, s := range [][2]int{{a, c}, {c, a}} {
				if n := post.Size(s[0], s[1]); n != 0 {
					t.Errorf("Size(%d, %d) = %d", s[0], s[1], n)
				}
				if b, e := post.Make(m, 0, s[0], s[1]); b != nil || e != api.ErrArg || m.Touched() != 0 {
					t.Errorf("Make(%d, %d): %v, %d, %d accesses", s[0], s[1], b, e, m.Touched())
				}
			}
		}
	}
}

// P18.1 to P18.5: the cells of a box that doesn't begin at 0; those of others stay as they were.
func TestBoxBesideOthers(t *testing.T) {
	m := cells.New(18)
	for i := range m.Len() {
		m.Store(i, 99)
	}
	b := laid(t, m, 3, 2, 1)
	trial.Cells(t, m, 99, 99, 99, 0, 0, 0, 0, 0, 0, 0, 0, 0, 0, 0, 0, 99, 99, 99)
	wantRun(t, "Tell", b.Tell(7), 7, api.Rouse, 0)
	wantRun(t, "Tell", b.Tell(8), 6, api.Done, 0)
	wantRun(t, "Ask", b.Ask(9), 7, api.Done, 0)
	trial.Cells(t, m, 99, 99, 99, 1, 1, 2, 0, 1, 7, 1, 8, 1, 0, 1, 9, 99, 99, 99)
	wantRun(t, "Begin", b.Begin(), 1, api.Done, 0)
	wantRun(t, "Note", b.Note(), 5, api.Done, 9)
	wantRun(t, "Fetch", b.Fetch(), 5, api.Done, 7)
	wantRun(t, "Close", b.Close(), 2, api.Done, 0)
	trial.Cells(t, m, 99, 99, 99, 2, 1, edge+2, 1, 2, 7, 1, 8, 1, 1, 2, 9, 99, 99, 99)
	wantRun(t, "Settle", b.Settle(false), 6, api.More, 0)
	wantRun(t, "Drain", b.Drain(), 6, api.Done, 8)
	wantRun(t, "Shut", b.Shut(), 1, api.Done, 0)
	trial.Cells(t, m, 99, 99, 99, 4, 1, edge+2, 2, 2, 7, 2, 8, 1, 1, 2, 9, 99, 99, 99)
}

// P18.1: what a box is lies in its cells alone.
func TestBoxIsLaidOutAnew(t *testing.T) {
	m, b := fresh(t, 1, 1)
	for _, o := range []*post.Op{b.Tell(7), b.Ask(8), b.Close(), b.Shut()} {
		trial.Run(t, o)
	}
	again := laid(t, m, 0, 1, 1)
	trial.Cells(t, m, make([]uint64, 10)...)
	wantRun(t, "Ask", again.Ask(5), 8, api.Rouse, 0)
	wantRun(t, "Ask", b.Ask(5), 1, api.None, 0)
	wantRun(t, "Note", b.Note(), 5, api.Done, 5)
}

// P18.2
func TestTellStepByStep(t *testing.T) {
	held := []uint64{0, 5, 2, 1, 4, 7, 1, 0, 1, 9} // the mail's ticket 2 is of round 2, and its slot waits for it
	m, b := holding(t, held...)
	o := b.Tell(8)
	trial.Steps(t, m, o,
		held,
		held,
		[]uint64{0, 5, 3, 1, 4, 7, 1, 0, 1, 9},
		[]uint64{0, 5, 3, 1, 4, 8, 1, 0, 1, 9},
		[]uint64{0, 5, 3, 1, 5, 8, 1, 0, 1, 9},
		[]uint64{0, 5, 3, 1, 5, 8, 1, 0, 1, 9},
		[]uint64{1, 5, 3, 1, 5, 8, 1, 0, 1, 9})
	wantTold(t, "Tell", o, api.Rouse, 0)
}

// P18.3
func TestPushStepByStep(t *testing.T) {
	held := []uint64{3, 5, 1, 0, 1, 9, 2, 1, 4, 7}
	m, b := holding(t, held...)
	o := b.Push(8)
	trial.Steps(t, m, o,
		held,
		held,
		[]uint64{3, 5, 1, 0, 1, 9, 3, 1, 4, 7},
		[]uint64{3, 5, 1, 0, 1, 9, 3, 1, 4, 8},
		[]uint64{3, 5, 1, 0, 1, 9, 3, 1, 5, 8},
		[]uint64{3, 5, 1, 0, 1, 9, 3, 1, 5, 8},
		[]uint64{1, 5, 1, 0, 1, 9, 3, 1, 5, 8})
	wantTold(t, "Push", o, api.Rouse, 0)
}

// P18.3
func TestAskStepByStep(t *testing.T) {
	m, b := holding(t, 0, 0, 1, 0, 1, 9, 2, 1, 4, 7)
	o := b.Ask(8)
	trial.Steps(t, m, o,
		[]uint64{0, 1, 1, 0, 1, 9, 2, 1, 4, 7},
		[]uint64{0, 1, 1, 0, 1, 9, 2, 1, 4, 7},
		[]uint64{0, 1, 1, 0, 1, 9, 2, 1, 4, 7},
		[]uint64{0, 1, 1, 0, 1, 9, 3, 1, 4, 7},
		[]uint64{0, 1, 1, 0, 1, 9, 3, 1, 4, 8},
		[]uint64{0, 1, 1, 0, 1, 9, 3, 1, 5, 8},
		[]uint64{0, 1, 1, 0, 1, 9, 3, 1, 5, 8},
		[]uint64{1, 1, 1, 0, 1, 9, 3, 1, 5, 8})
	wantTold(t, "Ask", o, api.Rouse, 0)
}

// brings are the operations that bring something, and by which statuses they rouse.
var brings = []struct {
	name  string
	begin func(*post.Box) *post.Op
	mail  bool
	ahead int // accesses ahead of the Put
	rests []uint64
}{
	{"Tell", func(b *post.Box) *post.Op { return b.Tell(8) }, true, 0, []uint64{post.Idle}},
	{"Push", func(b *post.Box) *post.Op { return b.Push(8) }, false, 0, []uint64{post.Idle, post.Held}},
	{"Ask", func(b *post.Box) *post.Op { return b.Ask(8) }, false, 1, []uint64{post.Idle, post.Held}},
}

// P18.2, P18.3: of every status.
func TestWhoIsRoused(t *testing.T) {
	for _, c := range brings {
		for _, status := range statuses {
			m, b := fresh(t, 1, 1)
			m.Store(0, status)
			steps, outcome, behind := 6, api.Done, status
			if slices.Contains(c.rests, status) {
				steps, outcome, behind = 7, api.Rouse, post.Ready
			}
			wantRun(t, fmt.Sprint(c.name, " at the status ", status), c.begin(b), c.ahead+steps, outcome, 0)
			if m.Peek(0) != behind {
				t.Errorf("%s at the status %d: it is %d then", c.name, status, m.Peek(0))
			}
		}
	}
}

// P18.2, P18.3: a status that is another one by the swap sends it back to the Load, and so again and again.
func TestWhoIsRousedWhileTheStatusChanges(t *testing.T) {
	for _, c := range brings {
		for _, from := range c.rests {
			for _, to := range statuses {
				if to == from {
					continue
				}
				m, b := fresh(t, 1, 1)
				o := c.begin(b)
				for range c.ahead + 5 {
					o.Step()
				}
				for range 5 {
					m.Store(0, from)
					o.Step() // the Load
					m.Store(0, to)
					if trial.One(t, m, o) || m.Peek(0) != to {
						t.Fatalf("%s: over %t behind a Swap of %d where %d stands; the status is %d", c.name, o.Over(), from, to, m.Peek(0))
					}
				}
				steps, outcome := 1, api.Done
				if slices.Contains(c.rests, to) {
					steps, outcome = 2, api.Rouse
				}
				wantRun(t, fmt.Sprint(c.name, ": ", from, ", then ", to), o, steps, outcome, 0)
			}
		}
	}
}

// P18.2, P18.3: who doesn't go in rouses nobody.
func TestNothingGoesIn(t *testing.T) {
	for _, c := range brings {
		for _, closed := range []bool{false, true} {
			held := []uint64{0, 0, 0, 0, 0, 0, 0, 0, 0, 0}
			ring := held[6:]
			if c.mail {
				ring = held[2:6]
			}
			ring[0], ring[2], ring[3] = 1, 1, 7
			steps, outcome := 2, api.Full
			if closed {
				ring[0] += edge
				steps, outcome = 1, api.Closed
			}
			m, b := holding(t, held...)
			wantRun(t, c.name, c.begin(b), c.ahead+steps, outcome, 0)
			held[1] = uint64(c.ahead)
			trial.Cells(t, m, held...)
		}
	}
}

// P18.3: what an Ask swaps for is 0 alone; one that was let through and didn't go in was let through all the same.
func TestJustOneAskIsLetThrough(t *testing.T) {
	for _, asked := range []uint64{1, 2, 3, 1 << 32, edge, math.MaxUint64} {
		held := []uint64{0, asked, 0, 0, 0, 0, 0, 0, 0, 0}
		m, b := holding(t, held...)
		wantRun(t, "Ask", b.Ask(8), 1, api.None, 0)
		trial.Cells(t, m, held...)
	}
	_, b := fresh(t, 1, 1)
	wantRun(t, "Push", b.Push(7), 7, api.Rouse, 0)
	wantRun(t, "Ask", b.Ask(8), 3, api.Full, 0)
	wantRun(t, "Note", b.Note(), 5, api.Done, 7)
	wantRun(t, "Ask", b.Ask(8), 1, api.None, 0)
	wantRun(t, "Note", b.Note(), 2, api.None, 0)
	for _, o := range []*post.Op{b.Begin(), b.Again(), b.Close(), b.Shut(), b.Settle(false)} {
		trial.Run(t, o)
		wantRun(t, "Ask", b.Ask(8), 1, api.None, 0)
	}
}

// P18.3: of Asks that step by turns the first one that steps is let through.
func TestAsksByTurns(t *testing.T) {
	_, b := fresh(t, 1, 1)
	first, second := b.Ask(7), b.Ask(8)
	second.Step()
	wantRun(t, "Ask", first, 1, api.None, 0)
	wantRun(t, "Ask", second, 7, api.Rouse, 0)
	wantRun(t, "Note", b.Note(), 5, api.Done, 8)
}

// P18.4: of every status.
func TestStatusesAreStored(t *testing.T) {
	for _, status := range statuses {
		for _, c := range []struct {
			name   string
			begin  func(*post.Box) *post.Op
			behind uint64
		}{{"Begin", (*post.Box).Begin, post.Running}, {"Again", (*post.Box).Again, post.Ready}, {"Shut", (*post.Box).Shut, post.Shut}} {
			m, b := holding(t, status, 1, 2, 3, 4, 5, 6, 7, 8, 9)
			o := c.begin(b)
			trial.Steps(t, m, o, []uint64{c.behind, 1, 2, 3, 4, 5, 6, 7, 8, 9})
			wantTold(t, c.name, o, api.Done, 0)
		}
	}
}

// P18.4: of every status.
func TestWhoIsGone(t *testing.T) {
	for _, status := range statuses {
		held := []uint64{status, 1, 2, 3, 4, 5, 6, 7, 8, 9}
		m, b := holding(t, held...)
		o := b.Gone()
		trial.Steps(t, m, o, held)
		outcome := api.None
		if status == post.Shut {
			outcome = api.Done
		}
		wantTold(t, fmt.Sprint("Gone at the status ", status), o, outcome, 0)
	}
}

// P18.4: each of the rings' operations is of its own ring.
func TestMailAndNotesAreApart(t *testing.T) {
	both := []uint64{2, 1, 6, 5, 11, 70, 8, 7, 15, 71} // the mail's ticket 5 is there at 11, and the notes' ticket 7 at 15
	for _, c := range []struct {
		name  string
		begin func(*post.Box) *post.Op
		value uint64
		steps [][]uint64
	}{
		{"Fetch", (*post.Box).Fetch, 70, [][]uint64{both, both, both, {2, 1, 6, 5, 12, 70, 8, 7, 15, 71}, {2, 1, 6, 6, 12, 70, 8, 7, 15, 71}}},
		{"Note", (*post.Box).Note, 71, [][]uint64{both, both, both, {2, 1, 6, 5, 11, 70, 8, 7, 16, 71}, {2, 1, 6, 5, 11, 70, 8, 8, 16, 71}}},
		{"Drain", (*post.Box).Drain, 70, [][]uint64{both, both, both, both, {2, 1, 6, 5, 12, 70, 8, 7, 15, 71}, {2, 1, 6, 6, 12, 70, 8, 7, 15, 71}}},
		{"Close", (*post.Box).Close, 0, [][]uint64{both, {2, 1, edge + 6, 5, 11, 70, 8, 7, 15, 71}}},
	} {
		m, b := holding(t, both...)
		o := c.begin(b)
		trial.Steps(t, m, o, c.steps...)
		wantTold(t, c.name, o, api.Done, c.value)
	}
}

// P18.4: of nothing, and of an end.
func TestNothingIsTaken(t *testing.T) {
	m, b := fresh(t, 1, 1)
	wantRun(t, "Fetch", b.Fetch(), 2, api.None, 0)
	wantRun(t, "Note", b.Note(), 2, api.None, 0)
	wantRun(t, "Drain", b.Drain(), 3, api.None, 0)
	wantRun(t, "Close", b.Close(), 2, api.Done, 0)
	wantRun(t, "Close", b.Close(), 1, api.Done, 0)
	wantRun(t, "Drain", b.Drain(), 2, api.Ended, 0)
	wantRun(t, "Fetch", b.Fetch(), 2, api.None, 0)
	wantRun(t, "Tell", b.Tell(7), 1, api.Closed, 0)
	trial.Cells(t, m, 0, 0, edge, 0, 0, 0, 0, 0, 0, 0)
	wantRun(t, "Push", b.Push(7), 7, api.Rouse, 0) // the notes are open still
}

// settled is what a Settle comes to, of what lies in the rings.
func settled(held, notes, mail bool) (steps, outcome int) {
	switch {
	case notes:
		return 4, api.More
	case held:
		return 3, api.None
	case mail:
		return 6, api.More
	}
	return 5, api.None
}

// P18.5: of all that the rings may have, at every status ahead of it.
func TestSettleOfAllRings(t *testing.T) {
	for kind := range 8 * len(statuses) {
		held, notes, mail, status := kind&1 > 0, kind&2 > 0, kind&4 > 0, statuses[kind/8]
		before := []uint64{status, 1, 0, 0, 0, 0, 0, 0, 0, 0}
		if mail {
			before[2], before[4], before[5] = 1, 1, 70
		}
		if notes {
			before[6], before[8], before[9] = 1, 1, 71
		}
		m, b := holding(t, before...)
		steps, outcome := settled(held, notes, mail)
		var behind [][]uint64
		for range steps {
			before[0] = post.Idle
			if held {
				before[0] = post.Held
			}
			behind = append(behind, slices.Clone(before))
		}
		if outcome == api.More {
			behind[steps-1][0] = post.Ready
		}
		o := b.Settle(held)
		trial.Steps(t, m, o, behind...)
		wantTold(t, fmt.Sprintf("Settle(%t), notes %t, mail %t", held, notes, mail), o, outcome, 0)
	}
}

// P18.5: who looks behind its store finds what was brought since, be it ahead of the notes' Look or ahead of the mail's.
func TestSettleFindsWhatCameMeanwhile(t *testing.T) {
	for steps := range 5 {
		for _, c := range brings[:2] {
			m, b := fresh(t, 1, 1)
			m.Store(0, post.Running)
			o := b.Settle(false)
			for range steps {
				o.Step()
			}
			bring := c.begin(b)
			for range 5 { // the Put alone
				bring.Step()
			}
			want := api.None
			if c.mail && steps < 5 || steps < 3 {
				want = api.More
			}
			if trial.Run(t, o); o.Outcome() != want {
				t.Errorf("%s behind step %d of a Settle: %d, want %d", c.name, steps, o.Outcome(), want)
			}
			if trial.Run(t, bring); (bring.Outcome() == api.Rouse) == (want == api.More) {
				t.Errorf("%s behind step %d of a Settle that came to %d: %d", c.name, steps, want, bring.Outcome())
			}
		}
	}
}

// P18.5: where the status was changed meanwhile, somebody else is charged.
func TestSettleOfWhoWasRousedMeanwhile(t *testing.T) {
	for _, held := range []bool{false, true} {
		stored := uint64(post.Idle)
		if held {
			stored = post.Held
		}
		for _, status := range statuses {
			m, b := holding(t, 2, 0, 0, 0, 0, 0, 1, 0, 1, 71)
			o := b.Settle(held)
			for range 3 {
				o.Step()
			}
			m.Store(0, status)
			outcome, behind := api.Done, status
			if status == stored {
				outcome, behind = api.More, post.Ready
			}
			wantRun(t, fmt.Sprintf("Settle(%t), the status being %d", held, status), o, 1, outcome, 0)
			if m.Peek(0) != behind {
				t.Errorf("the status is %d", m.Peek(0))
			}
		}
	}
}

// P18.5: the mail of a box that is held waits till a Settle says that it isn't.
func TestMailOfWhoIsHeldWaits(t *testing.T) {
	_, b := fresh(t, 2, 2)
	wantRun(t, "Tell", b.Tell(7), 7, api.Rouse, 0)
	wantRun(t, "Begin", b.Begin(), 1, api.Done, 0)
	wantRun(t, "Settle", b.Settle(true), 3, api.None, 0)
	wantRun(t, "Tell", b.Tell(8), 6, api.Done, 0)
	wantRun(t, "Push", b.Push(5), 7, api.Rouse, 0)
	wantRun(t, "Begin", b.Begin(), 1, api.Done, 0)
	wantRun(t, "Note", b.Note(), 5, api.Done, 5)
	wantRun(t, "Settle", b.Settle(false), 6, api.More, 0)
	wantRun(t, "Fetch", b.Fetch(), 5, api.Done, 7)
	wantRun(t, "Fetch", b.Fetch(), 5, api.Done, 8)
	wantRun(t, "Settle", b.Settle(false), 5, api.None, 0)
}

// P18.2 to P18.4: all values go in and out as they are.
func TestValuesOfAllSizes(t *testing.T) {
	_, b := fresh(t, 1, 1)
	for _, v := range []uint64{0, 1, 4096, edge - 1, edge, edge + 1, math.MaxUint64} {
		trial.Run(t, b.Tell(v))
		trial.Run(t, b.Push(v+1))
		wantRun(t, "Fetch", b.Fetch(), 5, api.Done, v)
		wantRun(t, "Note", b.Note(), 5, api.Done, v+1)
		trial.Run(t, b.Tell(v))
		wantRun(t, "Drain", b.Drain(), 6, api.Done, v)
	}
	_, b = fresh(t, 1, 1)
	wantRun(t, "Ask", b.Ask(math.MaxUint64), 8, api.Rouse, 0)
	wantRun(t, "Note", b.Note(), 5, api.Done, math.MaxUint64)
}

// full makes a box whose rings have something and room for more, so that each operation goes all its way.
func full(t *testing.T) (*cells.Mem, *post.Box) {
	t.Helper()
	m, b := fresh(t, 2, 3)
	for _, o := range []*post.Op{b.Tell(70), b.Push(71), b.Settle(true)} {
		trial.Run(t, o)
	}
	m.Store(0, post.Idle)
	return m, b
}

// P18.6
func TestNothingIsToldAheadOfTheOutcome(t *testing.T) {
	steps := map[int]int{tell: 7, push: 7, ask: 8, beginning: 1, fetch: 5, note: 5, settle: 4, settleHeld: 4, again: 1, closing: 2, drain: 6, shut: 1, gone: 1}
	for kind := range kinds {
		m, b := full(t)
		o := begin(b, kind, 72)
		for i := range steps[kind] {
			wantTold(t, names[kind], o, api.Pending, 0)
			if over := trial.One(t, m, o); over != (i == steps[kind]-1) {
				t.Errorf("%s: over %t at step %d", names[kind], over, i+1)
			}
		}
	}
}

// P18.6
func TestStepOfOneThatIsOverDoesNothing(t *testing.T) {
	for kind := range kinds {
		m, b := full(t)
		o := begin(b, kind, 72)
		trial.Run(t, o)
		outcome, value := o.Outcome(), o.Value()
		laid(t, m, 0, 2, 3) // so that an access too many would tell another thing
		held := m.All()
		for range 9 {
			if !trial.One(t, m, o) {
				t.Errorf("%s: an operation that was over is over no more", names[kind])
			}
			wantTold(t, names[kind], o, outcome, value)
		}
		trial.Cells(t, m, held...)
	}
}

// P18.6: an operation that isn't stepped does nothing, and its calls touch nothing.
func TestOperationsBeginWithTheirFirstStep(t *testing.T) {
	m, b := full(t)
	held, touched := m.All(), m.Touched()
	var begun []*post.Op
	for kind := range kinds {
		begun = append(begun, begin(b, kind, 72))
	}
	if m.Touched() != touched {
		t.Error("an operation has touched the memory ahead of its first step")
	}
	trial.Cells(t, m, held...)
	wantRun(t, "Close", begun[closing], 2, api.Done, 0)
	wantRun(t, "Tell", begun[tell], 1, api.Closed, 0)
	wantRun(t, "Shut", begun[shut], 1, api.Done, 0)
	wantRun(t, "Gone", begun[gone], 1, api.Done, 0)
	wantRun(t, "Push", begun[push], 6, api.Done, 0)
	wantRun(t, "Note", begun[note], 5, api.Done, 71)
}

// Rule 6: two boxes in two memories, and two that share one.
func TestBoxesAreApart(t *testing.T) {
	m := cells.New(post.Size(1, 1) + post.Size(2, 1))
	a, b := laid(t, m, 0, 1, 1), laid(t, m, post.Size(1, 1), 2, 1)
	other, c := fresh(t, 1, 1)
	for _, box := range []*post.Box{a, c} {
		wantRun(t, "Tell", box.Tell(7), 7, api.Rouse, 0)
		wantRun(t, "Ask", box.Ask(8), 7, api.Done, 0)
	}
	wantRun(t, "Ask", b.Ask(9), 8, api.Rouse, 0)
	wantRun(t, "Shut", b.Shut(), 1, api.Done, 0)
	wantRun(t, "Gone", a.Gone(), 1, api.None, 0)
	wantRun(t, "Close", b.Close(), 2, api.Done, 0)
	if !slices.Equal(m.All()[:10], other.All()) {
		t.Errorf("the same was done: %v, %v", m.All()[:10], other.All())
	}
	wantRun(t, "Fetch", a.Fetch(), 5, api.Done, 7)
	wantRun(t, "Note", a.Note(), 5, api.Done, 8)
	wantRun(t, "Fetch", b.Fetch(), 2, api.None, 0)
	wantRun(t, "Note", b.Note(), 5, api.Done, 9)
}

// Rule 1: all numbers in all cells.
func TestStepsEndWhateverTheCellsHold(t *testing.T) {
	for _, ring := range []uint64{0, 1, 2, edge - 1, edge, edge + 1, math.MaxUint64 - 1, math.MaxUint64} {
		for _, status := range statuses {
			for _, asked := range []uint64{0, 1, math.MaxUint64} {
				_, b := holding(t, status, asked, ring, ring-1, ring+1, ring, ring-1, ring, 1-ring, 7)
				for kind := range kinds {
					o := begin(b, kind, 5)
					for range 12 {
						o.Step()
					}
				}
			}
		}
	}
}
