package ledger_test

import (
	"math"
	"math/rand"
	"slices"
	"testing"

	"troupe/api"
	"troupe/ledger"
)

// The chapter's numbers, and some at which nothing is held: Nowhere, Started, Dead, and what is no place.
var (
	held     = []int{1, 2, 3, 4, 5, 6}
	notHeld  = []int{0, 7, 8, 9, 10, -1, -2, -6, 255, 256, 257, 1<<32 + 1, 1<<32 + 6, math.MaxInt, math.MinInt, math.MinInt + 1}
	noPlaces = []int{0, 9, 10, -1, -2, -7, -8, 256, 257, 1 << 32, 1<<32 + 1, 1<<32 + 8, math.MaxInt, math.MinInt, math.MinInt + 1}
	ids      = []uint64{0, 1, 2, 5, 255, 256, 1 << 31, 1 << 32, 1<<32 + 1, 1<<63 - 1, 1 << 63, math.MaxUint64}
)

const (
	accept = iota
	move
	start
	kill
)

// call is one call that may change a ledger; where is of an Accept and a Move alone.
type call struct {
	do    int
	id    uint64
	where int
}

func (c call) of(l *ledger.Ledger) api.Errno {
	switch c.do {
	case accept:
		return l.Accept(c.id, c.where)
	case move:
		return l.Move(c.id, c.where)
	case start:
		return l.Start(c.id)
	}
	return l.Kill(c.id)
}

// plain is a ledger as the chapter tells it: a list of all messages that were accepted, in that order.
type plain struct {
	places []api.Place
}

func (p *plain) find(id uint64) *api.Place {
	at := slices.IndexFunc(p.places, func(q api.Place) bool { return q.Id == id })
	if at < 0 {
		return &api.Place{Id: id}
	}
	return &p.places[at]
}

func (p *plain) of(c call) api.Errno {
	takesPlace := c.do == accept || c.do == move
	if takesPlace && !slices.Contains(held, c.where) {
		return api.ErrArg
	}
	q := p.find(c.id)
	if c.do == accept {
		if q.Where != 0 {
			return api.ErrThere
		}
		p.places = append(p.places, api.Place{Id: c.id, Where: c.where})
		return api.OK
	}
	if !slices.Contains(held, q.Where) {
		return api.ErrNone
	}
	q.Where = map[int]int{move: c.where, start: 7, kill: 8}[c.do]
	return api.OK
}

func (p *plain) count(where int) int {
	n := 0
	for _, q := range p.places {
		if q.Where == where {
			n++
		}
	}
	return n
}

func (p *plain) held() []api.Place {
	return slices.DeleteFunc(slices.Clone(p.places), func(q api.Place) bool { return !slices.Contains(held, q.Where) })
}

// pair is a ledger and the plain one to which the same is done.
type pair struct {
	t    *testing.T
	got  *ledger.Ledger
	want plain
}

func begin(t *testing.T, calls ...call) *pair {
	t.Helper()
	p := &pair{t: t, got: ledger.New()}
	for _, c := range calls {
		p.do(c, api.OK)
	}
	return p
}

// do holds a call against its errno, and against the plain ledger's.
func (p *pair) do(c call, want api.Errno) {
	p.t.Helper()
	if e := c.of(p.got); e != want {
		p.t.Errorf("%v = %d, want %d", c, e, want)
	}
	if e := p.want.of(c); e != want {
		p.t.Errorf("%v: the plain ledger answers %d, want %d", c, e, want)
	}
}

// look holds all that a ledger tells against the plain one.
func (p *pair) look() {
	p.t.Helper()
	for _, id := range ids {
		p.where(id)
	}
	for _, q := range p.want.places {
		p.where(q.Id)
	}
	for where := 1; where <= 8; where++ {
		if got, want := p.got.Count(where), p.want.count(where); got != want {
			p.t.Errorf("Count(%d) = %d, want %d", where, got, want)
		}
	}
	for _, where := range noPlaces {
		if got := p.got.Count(where); got != 0 {
			p.t.Errorf("Count(%d) = %d, want 0", where, got)
		}
	}
	wantHeld(p.t, p.got, p.want.held()...)
}

func (p *pair) where(id uint64) {
	p.t.Helper()
	if got, want := p.got.Where(id), p.want.find(id).Where; got != want {
		p.t.Errorf("Where(%d) = %d, want %d", id, got, want)
	}
}

func wantHeld(t *testing.T, l *ledger.Ledger, want ...api.Place) {
	t.Helper()
	if got := l.Held(); !slices.Equal(got, want) {
		t.Errorf("Held = %v, want %v", got, want)
	}
}

// changes are calls by each of which a message comes to one of the places from 1 on.
func changes(id uint64, where int) []call {
	switch where {
	case 7:
		return []call{{accept, id, 2}, {start, id, 0}}
	case 8:
		return []call{{accept, id, 2}, {kill, id, 0}}
	}
	return []call{{accept, id, where}}
}

func TestExamplesOfTheChapter(t *testing.T) {
	p := begin(t, call{accept, 5, 1}, call{move, 5, 2}, call{start, 5, 0})
	p.do(call{kill, 5, 0}, api.ErrNone)
	p.do(call{accept, 5, 1}, api.ErrThere)
	p.do(call{accept, 6, 7}, api.ErrArg)
	p.do(call{accept, 6, 3}, api.OK)
	if got := p.got.Where(5); got != 7 {
		t.Errorf("Where(5) = %d, want 7", got)
	}
	if got := p.got.Count(3); got != 1 {
		t.Errorf("Count(3) = %d, want 1", got)
	}
	wantHeld(t, p.got, api.Place{Id: 6, Where: 3})
}

// Chapter 10's Words
func TestPlacesAreThoseOfTheChapter(t *testing.T) {
	got := [9]int{api.Nowhere, api.InFrame, api.InRing, api.InStash, api.InFront, api.InIntake, api.InWheel, api.Started, api.Dead}
	if want := [9]int{0, 1, 2, 3, 4, 5, 6, 7, 8}; got != want {
		t.Errorf("the places are %v, want %v", got, want)
	}
}

// P10.1, P10.2
func TestNewHasEachMessageNowhere(t *testing.T) {
	p := begin(t)
	p.look()
	for _, id := range ids {
		for _, do := range []int{move, start, kill} {
			p.do(call{do, id, 1}, api.ErrNone)
		}
	}
	p.look()
}

// P10.1
func TestAcceptHoldsThere(t *testing.T) {
	for _, where := range held {
		p := begin(t)
		for _, id := range ids {
			p.do(call{accept, id, where}, api.OK)
			p.look()
		}
	}
}

// P10.1 and rule 3
func TestAcceptRefusesWhereNothingIsHeld(t *testing.T) {
	p := begin(t, call{accept, 1, 4}, call{accept, 2, 2})
	for _, where := range notHeld {
		p.do(call{accept, 5, where}, api.ErrArg)
		p.look()
	}
	p.do(call{accept, 5, 1}, api.OK)
	p.look()
}

// P10.1: also of what has ended, once and for ever.
func TestAcceptRefusesWhatIsThere(t *testing.T) {
	for was := 1; was <= 8; was++ {
		p := begin(t, append(changes(5, was), call{accept, 2, 3})...)
		for range 2 {
			for _, where := range held {
				p.do(call{accept, 5, where}, api.ErrThere)
				p.look()
			}
		}
	}
}

// P10.1 and rule 2: the place comes first.
func TestWhereNothingIsHeldIsToldFirst(t *testing.T) {
	for was := 0; was <= 8; was++ {
		p := begin(t)
		if was > 0 {
			p = begin(t, changes(5, was)...)
		}
		for _, where := range notHeld {
			p.do(call{accept, 5, where}, api.ErrArg)
			p.do(call{move, 5, where}, api.ErrArg)
			p.look()
		}
	}
}

// P10.1: from each place to each one, its own too.
func TestMoveHoldsElsewhere(t *testing.T) {
	for _, from := range held {
		for _, to := range held {
			p := begin(t, call{accept, 5, from}, call{accept, 6, from}, call{accept, 7, to})
			p.do(call{move, 6, to}, api.OK)
			p.look()
			p.do(call{move, 6, from}, api.OK)
			p.look()
		}
	}
}

// P10.1
func TestMoveRefusesWhatIsNotHeld(t *testing.T) {
	p := begin(t, append(changes(7, 7), append(changes(8, 8), call{accept, 1, 1})...)...)
	for _, id := range []uint64{0, 2, 7, 8, math.MaxUint64} {
		for _, where := range held {
			p.do(call{move, id, where}, api.ErrNone)
			p.look()
		}
	}
	p.do(call{accept, 2, 6}, api.OK)
	p.look()
}

// P10.1: from each place, be it accepted there or moved there.
func TestStartAndKillEndTheHolding(t *testing.T) {
	for _, end := range []call{{start, 5, 0}, {kill, 5, 0}} {
		for _, where := range held {
			for _, first := range held {
				p := begin(t, call{accept, 4, where}, call{accept, 5, first}, call{accept, 6, where}, call{move, 5, where})
				p.do(end, api.OK)
				p.look()
			}
		}
	}
}

// P10.1: what has ended stays so, whatever is asked.
func TestWhatHasEndedStays(t *testing.T) {
	for was := 7; was <= 8; was++ {
		p := begin(t, append(changes(5, was), call{accept, 6, 5})...)
		for range 2 {
			p.do(call{start, 5, 0}, api.ErrNone)
			p.look()
			p.do(call{kill, 5, 0}, api.ErrNone)
			p.look()
			p.do(call{move, 5, 1}, api.ErrNone)
			p.look()
			p.do(call{accept, 5, 1}, api.ErrThere)
			p.look()
		}
	}
}

// P10.2: by neither their ids nor their places; many, so that no chance order passes.
func TestHeldIsInTheOrderOfAccepting(t *testing.T) {
	rows := [][]uint64{{3, 1, 2}, {1, 2, 3}, {3, 2, 1}, {math.MaxUint64, 0, 1 << 63, 1}}
	long := make([]uint64, 500)
	for i := range long {
		long[i] = uint64(i) * 7919 % 1009
	}
	for _, row := range append(rows, long) {
		p := begin(t)
		for i, id := range row {
			p.do(call{accept, id, held[(i*5+3)%6]}, api.OK)
		}
		p.look()
		if got := p.got.Held(); len(got) != len(row) || got[0].Id != row[0] || got[len(got)-1].Id != row[len(row)-1] {
			t.Errorf("Held = %v behind %v", got, row)
		}
	}
}

// P10.2: neither a Move nor what is refused gives a new place in the order.
func TestHeldKeepsItsOrder(t *testing.T) {
	p := begin(t, call{accept, 9, 1}, call{accept, 4, 1}, call{accept, 7, 1})
	p.do(call{move, 9, 2}, api.OK)
	p.do(call{accept, 9, 3}, api.ErrThere)
	p.do(call{move, 4, 1}, api.OK)
	wantHeld(t, p.got, api.Place{Id: 9, Where: 2}, api.Place{Id: 4, Where: 1}, api.Place{Id: 7, Where: 1})
	p.do(call{accept, 5, 0}, api.ErrArg)
	p.do(call{accept, 1, 6}, api.OK)
	p.do(call{accept, 5, 5}, api.OK)
	p.do(call{move, 7, 4}, api.OK)
	wantHeld(t, p.got, api.Place{Id: 9, Where: 2}, api.Place{Id: 4, Where: 1}, api.Place{Id: 7, Where: 4}, api.Place{Id: 1, Where: 6}, api.Place{Id: 5, Where: 5})
}

// P10.2: who ends leaves the others in their order, and those that are accepted behind it come last.
func TestHeldWithoutThoseThatEnded(t *testing.T) {
	p := begin(t)
	for id := uint64(40); id > 0; id-- {
		p.do(call{accept, id, held[id%6]}, api.OK)
	}
	for i, id := range []uint64{40, 1, 20, 21, 19, 39, 2} {
		p.do(call{start + i%2, id, 0}, api.OK)
		p.look()
		p.do(call{accept, 100 - uint64(i), 1}, api.OK)
		p.look()
	}
	for id := uint64(100); id > 0; id-- {
		if slices.Contains(held, p.got.Where(id)) {
			p.do(call{kill, id, 0}, api.OK)
		}
	}
	p.look()
	wantHeld(t, p.got)
	p.do(call{accept, 200, 2}, api.OK)
	p.do(call{accept, 150, 3}, api.OK)
	wantHeld(t, p.got, api.Place{Id: 200, Where: 2}, api.Place{Id: 150, Where: 3})
}

// P10.2: of the messages that were accepted, each is counted at one place.
func TestCountsAddUp(t *testing.T) {
	p := begin(t)
	for id := range uint64(80) {
		for _, c := range changes(id, int(id%8)+1) {
			p.do(c, api.OK)
		}
		p.look()
	}
	for where := 1; where <= 8; where++ {
		if got := p.got.Count(where); got != 10 {
			t.Errorf("Count(%d) = %d, want 10", where, got)
		}
	}
}

// P10.2 and rule 6: asking changes nothing.
func TestAskingChangesNothing(t *testing.T) {
	p := begin(t, append(changes(7, 7), call{accept, 3, 2}, call{accept, 1, 2})...)
	for range 3 {
		p.look()
	}
	for _, id := range ids[4:] {
		p.do(call{accept, id, 1}, api.OK)
	}
	p.look()
}

// Rule 5: an answer's spare room is its own, too.
func TestAnswersAreNewMemory(t *testing.T) {
	for n := range uint64(20) {
		p := begin(t)
		for id := range n {
			p.do(call{accept, id, held[id%6]}, api.OK)
		}
		first, second := p.got.Held(), p.got.Held()
		for _, list := range [][]api.Place{first[:cap(first)], append(first, api.Place{Id: 66})} {
			for i := range list {
				list[i] = api.Place{Id: 77, Where: 77}
			}
		}
		if !slices.Equal(second, p.want.held()) {
			t.Errorf("of %d messages: an answer has become %v", n, second)
		}
		p.look()
		p.do(call{accept, 100, 5}, api.OK)
		p.look()
	}
}

// Rule 5: an answer stays as it was, whatever comes behind it.
func TestAnswersStay(t *testing.T) {
	p := begin(t)
	var got, want [][]api.Place
	for id := range uint64(30) {
		p.do(call{accept, 30 - id, held[id%6]}, api.OK)
		if id%3 == 2 {
			p.do(call{kill, 31 - id, 0}, api.OK)
			p.do(call{move, 30 - id, 4}, api.OK)
		}
		got, want = append(got, p.got.Held()), append(want, p.want.held())
	}
	for i := range got {
		if !slices.Equal(got[i], want[i]) {
			t.Errorf("answer %d has become %v, want %v", i, got[i], want[i])
		}
	}
}

// Rule 6
func TestLedgersAreApart(t *testing.T) {
	a, b := begin(t, call{accept, 1, 1}), begin(t)
	a.look()
	b.look()
	b.do(call{accept, 1, 3}, api.OK)
	b.do(call{start, 1, 0}, api.OK)
	b.do(call{accept, 2, 2}, api.OK)
	a.look()
	b.look()
	a.do(call{kill, 1, 0}, api.OK)
	a.look()
	b.look()
}

// Rule 6: two ledgers to which the same was done answer the same, at every asking.
func TestTheSameAnswersTheSame(t *testing.T) {
	a, b := ledger.New(), ledger.New()
	draw := rand.New(rand.NewSource(1))
	for range 400 {
		c := drawCall(draw, 200)
		if x, y := c.of(a), c.of(b); x != y {
			t.Errorf("%v = %d and %d", c, x, y)
		}
		if x, y := a.Held(), b.Held(); !slices.Equal(x, y) || !slices.Equal(x, a.Held()) {
			t.Fatalf("Held = %v and %v", x, y)
		}
	}
}

// drawCall draws a call of one of n ids, most often at a place where messages are held.
func drawCall(draw *rand.Rand, n int) call {
	return call{draw.Intn(4), uint64(draw.Intn(n)), draw.Intn(10) - 1}
}

// P10.1, P10.2: many rows of calls, each the same at every run, against the plain ledger.
func TestLongRowsOfCalls(t *testing.T) {
	for seed := range int64(60) {
		draw := rand.New(rand.NewSource(seed))
		p, n := begin(t), 1+draw.Intn(60)
		for range 300 {
			c := drawCall(draw, n)
			got, want := c.of(p.got), p.want.of(c)
			if got != want {
				t.Errorf("%v = %d, want %d", c, got, want)
			}
			p.look()
			if t.Failed() {
				t.Fatalf("seed %d, %d ids", seed, n)
			}
		}
	}
}
