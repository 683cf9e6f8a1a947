package post_test

import (
	"fmt"
	"math/rand"
	"slices"
	"strings"
	"testing"

	"troupe/api"
	"troupe/cells"
	"troupe/post"
	"troupe/trial"
)

// odd draws a cell's number: a status, or one that matters to a ring.
func odd(draw *rand.Rand, held []uint64) uint64 {
	if draw.Intn(2) == 0 {
		return uint64(draw.Intn(6))
	}
	return trial.Odd(draw.Intn, held)
}

// all kinds of operations with each of their outcomes.
var all = [][2]int{
	{tell, api.Rouse}, {tell, api.Done}, {tell, api.Full}, {tell, api.Closed},
	{push, api.Rouse}, {push, api.Done}, {push, api.Full}, {push, api.Closed},
	{ask, api.Rouse}, {ask, api.Done}, {ask, api.Full}, {ask, api.Closed}, {ask, api.None},
	{fetch, api.Done}, {fetch, api.None}, {note, api.Done}, {note, api.None},
	{settle, api.More}, {settle, api.Done}, {settle, api.None}, {settleHeld, api.More}, {settleHeld, api.Done}, {settleHeld, api.None},
	{beginning, api.Done}, {again, api.Done}, {shut, api.Done}, {gone, api.Done}, {gone, api.None},
	{closing, api.Done}, {drain, api.Done}, {drain, api.None}, {drain, api.Ended},
}

// played are those among them that threads can come to who only bring, and work when they are charged.
var played = [][2]int{
	{tell, api.Rouse}, {tell, api.Done}, {tell, api.Full}, {push, api.Rouse}, {push, api.Done}, {push, api.Full},
	{ask, api.Rouse}, {ask, api.Done}, {ask, api.None}, {beginning, api.Done}, {again, api.Done},
	{fetch, api.Done}, {fetch, api.None}, {note, api.Done}, {note, api.None},
	{settle, api.More}, {settle, api.Done}, {settle, api.None}, {settleHeld, api.More}, {settleHeld, api.Done}, {settleHeld, api.None},
}

// P18.2 to P18.6: operations of all kinds, mixed step by step, beside somebody who now and then changes a cell, or not; all that is told and all cells are held against the plain ones.
func TestStepsAgainstPlainOnes(t *testing.T) {
	met := map[[2]int]int{}
	for seed := range int64(1500) {
		draw := rand.New(rand.NewSource(seed))
		in := size{1 + draw.Intn(3), 1 + draw.Intn(3)}
		m, b := fresh(t, in.mail, in.notes)
		twins := func() trial.Twins {
			kind, v := draw.Intn(kinds), draw.Uint64()
			if kind == closing && draw.Intn(9) > 0 {
				kind = tell
			}
			o, p := begin(b, kind, v), plainly(kind, in, v)
			same := func() {
				met[[2]int{kind, p.outcome}]++
				wantTold(t, names[kind], o, p.outcome, p.value)
			}
			return trial.Twins{Op: o, Plain: p.step, Same: same}
		}
		trial.Mixed(t, m, draw.Intn, twins, 4*draw.Intn(3), func(held []uint64) uint64 { return odd(draw, held) })
		if t.Failed() {
			t.Fatalf("seed %d, %v slots", seed, in)
		}
	}
	trial.Met(t, met, all)
}

// twin is an operation that is under way, and what the chapter's words make of it; of none under way both are nil.
type twin struct {
	o *post.Op
	p *plain
}

// now tells how an operation stands; two that tell the same go on the same way.
func (w twin) now() string {
	if w.p == nil {
		return ""
	}
	text := fmt.Sprint(w.p.kind, w.p.v, w.p.at, w.p.s)
	if w.p.ring != nil {
		text += fmt.Sprint(*w.p.ring)
	}
	return text
}

// sender does its operations one behind the other: Tells, Pushes and Asks. What each of them brings is 1000 times the sender's number, counted from 1, and the operation's place.
type sender struct {
	kinds []int
	at    int // which of them is its next one, or under way
	under twin
}

// worker does what is done in a run, whenever somebody is charged with the box and it does nothing else.
type worker struct {
	acts  []int // those that it hasn't done
	under twin
	steps int // of the one under way
}

// run is what is done by one who is charged, behind a Begin: so many Notes and Fetches, and how it ends.
type run struct {
	notes, fetches int
	last           int // settle, settleHeld or again
}

// cast is what a play begins with.
type cast struct {
	in      size
	charged bool  // whether somebody is charged from the beginning
	runs    []run // what is done in them, in turn; in all that come behind them what is done in the last one
	workers int
	kinds   [][]int // the senders' operations
}

// stage is a box with senders and workers.
type stage struct {
	cast
	t          *testing.T
	m          *cells.Mem
	b          *post.Box
	held       []uint64 // what the cells hold, by the chapter's words
	senders    []*sender
	workers    []*worker
	ran        int  // how many runs were begun
	charged    int  // how many are charged with the box
	waits      bool // who is charged hasn't begun
	let        int  // how many Asks were let through
	sent, took []uint64
	met        map[[2]int]int
}

func newStage(t *testing.T, c cast) *stage {
	m, b := fresh(t, c.in.mail, c.in.notes)
	s := &stage{cast: c, t: t, m: m, b: b, met: map[[2]int]int{}}
	for _, kinds := range c.kinds {
		s.senders = append(s.senders, &sender{kinds: kinds})
	}
	for range c.workers {
		s.workers = append(s.workers, &worker{})
	}
	if c.charged {
		trial.Run(t, b.Again())
		s.charge()
	}
	s.held = m.All()
	return s
}

// charge is of one who is told Rouse or More, or has done Again.
func (s *stage) charge() {
	if s.charged++; s.charged > 1 {
		s.t.Errorf("%d are charged at a time", s.charged)
	}
	s.waits = true
}

// play picks threads till all of them are through, or a pick ends it.
func (s *stage) play(pick func(n int) int) {
	through := true
	order := trial.Turns(s.t, len(s.senders)+len(s.workers), s.goes, s.step, func(n int) int {
		k := pick(n)
		through = k >= 0
		return k
	})
	if through {
		s.left()
	}
	if s.t.Failed() { // it tells the first order that is wrong, and not those behind it too
		s.t.Fatalf("%v: order %v; the cells hold %v", s.cast, order, s.m.All())
	}
}

// state tells how all stands.
func (s *stage) state() string {
	slices.Sort(s.took)
	slices.Sort(s.sent)
	text := fmt.Sprint(s.held, s.ran, s.charged, s.waits, s.let, s.sent, s.took)
	for _, d := range s.senders {
		text += fmt.Sprint(" sender ", d.at, d.under.now())
	}
	var works []string
	for _, w := range s.workers {
		works = append(works, fmt.Sprint(" worker ", w.acts, w.steps, w.under.now()))
	}
	slices.Sort(works) // who of them does what is nothing to the others
	return text + strings.Join(works, "")
}

// goes tells whether a thread has something to do; of workers that do nothing only the first one begins.
func (s *stage) goes(k int) bool {
	if k < len(s.senders) {
		return s.senders[k].at < len(s.senders[k].kinds)
	}
	idle := func(w *worker) bool { return len(w.acts) == 0 }
	k -= len(s.senders)
	return !idle(s.workers[k]) || s.waits && k == slices.IndexFunc(s.workers, idle)
}

func (s *stage) step(k int) {
	if k < len(s.senders) {
		s.send(k, s.senders[k])
	} else {
		s.work(s.workers[k-len(s.senders)])
	}
}

// operate does the next access of an operation, which begins if none is under way, and tells what that has come to.
func (s *stage) operate(w *twin, kind int, v uint64) (outcome int) {
	if w.o == nil {
		w.o, w.p = begin(s.b, kind, v), plainly(kind, s.in, v)
	}
	trial.One(s.t, s.m, w.o)
	w.p.step(s.held)
	wantTold(s.t, names[kind], w.o, w.p.outcome, w.p.value)
	trial.Cells(s.t, s.m, s.held...)
	outcome = w.o.Outcome()
	s.met[[2]int{kind, outcome}]++
	return outcome
}

func (s *stage) send(k int, d *sender) {
	kind, v := d.kinds[d.at], uint64(1000*(k+1)+d.at)
	outcome := s.operate(&d.under, kind, v)
	if outcome == api.Pending {
		return
	}
	if kind == ask && outcome != api.None {
		s.let++
	}
	if outcome == api.Rouse || outcome == api.Done {
		s.sent = append(s.sent, v)
	}
	if outcome == api.Rouse {
		s.charge()
	}
	d.under = twin{}
	d.at++
}

// acts are those of the next run.
func (s *stage) acts() []int {
	r := s.runs[min(s.ran, len(s.runs)-1)]
	acts := slices.Concat([]int{beginning}, slices.Repeat([]int{note}, r.notes), slices.Repeat([]int{fetch}, r.fetches))
	return append(acts, r.last)
}

func (s *stage) work(w *worker) {
	if len(w.acts) == 0 {
		w.acts = s.acts()
		s.waits = false
		s.ran = min(s.ran+1, len(s.runs))
	}
	kind := w.acts[0]
	if w.steps++; w.steps == 1 && (kind == settle || kind == settleHeld || kind == again) {
		s.charged--
	}
	outcome := s.operate(&w.under, kind, 0)
	if outcome == api.Pending {
		return
	}
	if (kind == note || kind == fetch) && outcome == api.Done {
		s.took = append(s.took, w.under.o.Value())
	}
	if outcome == api.More || kind == again {
		s.charge()
	}
	w.acts, w.under, w.steps = w.acts[1:], twin{}, 0
}

// left holds what is left when all operations are over against what the promise says.
func (s *stage) left() {
	asks := 0
	for _, d := range s.senders {
		asks += len(slices.DeleteFunc(slices.Clone(d.kinds), func(kind int) bool { return kind != ask }))
	}
	if s.let != min(asks, 1) {
		s.t.Errorf("of %d Asks %d were let through", asks, s.let)
	}
	status := s.m.Peek(0)
	notes, mails := s.empty(s.b.Note), s.empty(s.b.Fetch)
	if s.charged == 0 && (notes > 0 || mails > 0 && status != post.Held) {
		s.t.Errorf("nobody is charged; the status is %d, and %d notes and %d mails are left", status, notes, mails)
	}
	slices.Sort(s.sent)
	if slices.Sort(s.took); !slices.Equal(s.sent, s.took) {
		s.t.Errorf("sent %v, taken %v", s.sent, s.took)
	}
}

func (s *stage) empty(take func() *post.Op) (n int) {
	for range s.in.mail + s.in.notes + 1 { // there are no more, and a wrong one may tell so for ever
		o := take()
		if trial.Run(s.t, o); o.Outcome() != api.Done {
			break
		}
		s.took = append(s.took, o.Value())
		n++
	}
	return n
}

// Runs that end in all ways; a blind one takes nothing, and so finds by its Settle what was there all the time.
var (
	brief     = run{1, 1, settle}
	long      = run{2, 2, settle}
	held      = run{1, 0, settleHeld}
	blind     = run{0, 0, settle}
	blindHeld = run{0, 0, settleHeld}
	onward    = run{1, 1, again}
)

// P18.7: all that a few operations can come to, in whatever order they step.
func TestEveryState(t *testing.T) {
	met := map[[2]int]int{}
	for i, c := range []struct {
		atLeast int
		cast
	}{
		{1700, cast{size{2, 2}, false, nil, 0, [][]int{{tell}, {tell}, {tell}}}},
		{850, cast{size{2, 2}, false, nil, 0, [][]int{{tell}, {push}, {push}}}},
		{84, cast{size{2, 2}, false, nil, 0, [][]int{{ask}, {ask}, {ask}}}},
		{160, cast{size{2, 2}, true, []run{blind, brief}, 3, [][]int{{tell}}}},
		{8000, cast{size{2, 2}, true, []run{blind, long}, 3, [][]int{{tell}, {tell}}}},
		{160, cast{size{2, 2}, true, []run{blind, brief}, 3, [][]int{{push}}}},
		{30, cast{size{2, 2}, true, []run{blindHeld, held}, 3, [][]int{{tell}}}},
		{100, cast{size{2, 2}, true, []run{blindHeld, held}, 3, [][]int{{push}}}},
		{3800, cast{size{2, 2}, true, []run{blindHeld, held}, 3, [][]int{{push}, {push}}}},
		{2700, cast{size{2, 2}, true, []run{blindHeld, brief}, 3, [][]int{{push}, {tell}}}},
		{7600, cast{size{2, 2}, true, []run{blindHeld, brief}, 2, [][]int{{push}, {ask}}}},
		{4500, cast{size{2, 2}, true, []run{blind, blindHeld, brief}, 3, [][]int{{ask}, {tell}}}},
		{4400, cast{size{2, 2}, true, []run{onward, blind, brief}, 3, [][]int{{tell}, {push}}}},
		{6400, cast{size{2, 2}, true, []run{onward, blind, blindHeld, brief}, 4, [][]int{{tell}, {push}}}},
		{190, cast{size{1, 1}, false, []run{brief}, 3, [][]int{{tell, tell}}}},
		{210, cast{size{1, 1}, false, []run{brief}, 3, [][]int{{push, tell}}}},
		{510, cast{size{1, 1}, false, []run{brief}, 3, [][]int{{tell}, {tell}}}},
		{5200, cast{size{1, 1}, false, []run{brief}, 2, [][]int{{tell, tell}, {tell}}}},
		{580, cast{size{1, 1}, false, []run{blind, brief}, 2, [][]int{{ask}, {tell}}}},
		{7500, cast{size{1, 1}, false, []run{held, brief}, 2, [][]int{{tell, push}, {push}}}},
	} {
		t.Run(fmt.Sprint(i), func(t *testing.T) {
			states := trial.EveryState(func(pick func(n int, state func() string) int) {
				s := newStage(t, c.cast)
				s.met = met
				s.play(func(n int) int { return pick(n, s.state) })
			})
			if states < c.atLeast {
				t.Errorf("%d states", states)
			}
		})
	}
	trial.Met(t, met, played)
}

// drawn makes a cast; its last run looks for what the others may have left.
func drawn(draw *rand.Rand) cast {
	c := cast{in: size{[]int{1, 2, 3, 64}[draw.Intn(4)], []int{1, 2, 3, 64}[draw.Intn(4)]}, charged: draw.Intn(2) == 0, workers: 1 + draw.Intn(4)}
	for range draw.Intn(9) {
		c.runs = append(c.runs, run{draw.Intn(3), draw.Intn(3), []int{settle, settle, settleHeld, again}[draw.Intn(4)]})
	}
	c.runs = append(c.runs, []run{brief, long, held}[draw.Intn(3)])
	for range 1 + draw.Intn(6) {
		row := make([]int, draw.Intn(8))
		for i := range row {
			row[i] = []int{tell, tell, push, ask}[draw.Intn(4)]
		}
		c.kinds = append(c.kinds, row)
	}
	return c
}

// P18.7: some orders of many operations.
func TestManyOrders(t *testing.T) {
	met := map[[2]int]int{}
	for seed := range int64(3000) {
		draw := rand.New(rand.NewSource(seed))
		s := newStage(t, drawn(draw))
		s.met = met
		s.play(draw.Intn)
	}
	trial.Met(t, met, played)
}
