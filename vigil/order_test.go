package vigil_test

import (
	"fmt"
	"math/rand"
	"slices"
	"testing"

	"troupe/api"
	"troupe/cells"
	"troupe/trial"
	"troupe/vigil"
)

// What a thread does besides operations: it marks an end, or looks for that mark, and goes on with what comes next only if it is there.
const (
	mark = kinds + iota
	look
)

const anew = -1 // what is met of an operation that goes on at its beginning

// every kind of operation with each of its outcomes.
var every = [][2]int{{watch, api.Done}, {watch, api.None}, {unwatch, api.Done}, {unwatch, api.None}, {claim, api.Done}, {claim, api.None}}

// played are those that threads come to of whose steps many are mixed.
var played = append([][2]int{{watch, anew}, {unwatch, anew}, {look, 0}, {look, 1}}, every...)

// P19.2, P19.3: operations of all kinds, mixed step by step, beside somebody who now and then changes a cell, or not; all that is told and all cells are held against the plain ones.
func TestStepsAgainstPlainOnes(t *testing.T) {
	met := map[[2]int]int{}
	for seed := range int64(600) {
		draw := rand.New(rand.NewSource(seed))
		actors := 1 + draw.Intn(4)
		m, v := fresh(t, actors)
		twins := func() trial.Twins {
			kind, x, y := draw.Intn(kinds), draw.Intn(actors+1), 1+draw.Intn(actors)
			if draw.Intn(9) == 0 {
				x, y = y, x+actors
			}
			o, p := begin(v, kind, x, y), plainly(kind, actors, x, y)
			same := func() {
				met[[2]int{kind, p.outcome}]++
				wantTold(t, names[kind], o, p.outcome)
			}
			return trial.Twins{Op: o, Plain: p.step, Same: same}
		}
		trial.Mixed(t, m, draw.Intn, twins, 4*draw.Intn(3), func([]uint64) uint64 { return uint64(draw.Intn(5)) - 1 })
		if t.Failed() {
			t.Fatalf("seed %d, %d actors", seed, actors)
		}
	}
	trial.Met(t, met, every)
}

// act is one thing that a thread does, about a watcher and a watched one; a mark is of the watched one.
type act struct{ kind, x, y int }

func acts(x, y int, kinds ...int) (row []act) {
	for _, kind := range kinds {
		row = append(row, act{kind, x, y})
	}
	return row
}

// watches is of x: it watches y, then looks for its mark, and claims if it is there.
func watches(x, y int) []act { return acts(x, y, watch, look, claim) }

// ends is of y: it marks its end, and claims then, of all those who may watch it.
func ends(y int, watchers ...int) []act {
	row := acts(y, y, mark)
	for _, x := range watchers {
		row = append(row, act{claim, x, y})
	}
	return row
}

// thread does its acts one behind the other.
type thread struct {
	acts  []act // those that it hasn't done
	under *vigil.Op
	steps int // of the one under way
}

// told is what became of the watches of one pair.
type told struct {
	is                   bool // there is one that was neither claimed nor cut off
	watched, cut, claims int
}

// cast is what a play begins with.
type cast struct {
	actors int
	looked [][2]int // pairs of which it is looked for the end behind each Watch
	ahead  []act    // what is done ahead of all else
	rows   [][]act  // what the threads do
}

// stage is a vigil with threads, and behind it the marks of all actors' ends.
type stage struct {
	cast
	t       *testing.T
	m       *cells.Mem
	v       *vigil.Vigil
	threads []*thread
	told    [][]told // by the watcher, and by the watched one
	met     map[[2]int]int
}

func newStage(t *testing.T, c cast, met map[[2]int]int) *stage {
	m := cells.New(c.actors*c.actors + c.actors)
	s := &stage{cast: c, t: t, m: m, v: laid(t, m, 0, c.actors), met: met}
	for range c.actors + 1 {
		s.told = append(s.told, make([]told, c.actors+1))
	}
	return s
}

func (s *stage) mark(y int) int { return s.actors*s.actors + y - 1 }

// play picks threads till all of them are through.
func (s *stage) play(pick func(n int) int) {
	s.turns([][]act{s.ahead}, func(int) int { return 0 })
	order := s.turns(s.rows, pick)
	for _, pair := range s.looked {
		s.wantNoneLeft(pair[0], pair[1])
	}
	if s.t.Failed() { // it tells the first order that is wrong, and not those behind it too
		s.t.Fatalf("%v: order %v; the cells hold %v", s.cast, order, s.m.All())
	}
}

func (s *stage) turns(rows [][]act, pick func(n int) int) []int {
	s.threads = nil
	for _, row := range rows {
		s.threads = append(s.threads, &thread{acts: row})
	}
	goes := func(k int) bool { return len(s.threads[k].acts) > 0 }
	return trial.Turns(s.t, len(s.threads), goes, func(k int) { s.step(s.threads[k]) }, pick)
}

func (s *stage) step(th *thread) {
	switch a := th.acts[0]; a.kind {
	case mark:
		s.m.Store(s.mark(a.y), 1)
		th.acts = th.acts[1:]
	case look:
		there, _ := s.m.Load(s.mark(a.y))
		s.met[[2]int{look, int(there)}]++
		th.acts = th.acts[2-there:]
	default:
		s.operate(th, a)
	}
}

func (s *stage) operate(th *thread, a act) {
	if th.under == nil {
		th.under, th.steps = begin(s.v, a.kind, a.x, a.y), 0
	}
	over := trial.One(s.t, s.m, th.under)
	if th.steps++; th.steps == 3 {
		s.met[[2]int{a.kind, anew}]++
	}
	if over {
		s.over(a, th.under.Outcome())
		th.under, th.acts = nil, th.acts[1:]
	}
}

// over holds what an operation has come to against how the watch stands at its last step.
func (s *stage) over(a act, outcome int) {
	s.met[[2]int{a.kind, outcome}]++
	w := &s.told[a.x][a.y]
	want := api.Done
	if w.is == (a.kind == watch) {
		want = api.None
	}
	if outcome != want {
		s.t.Errorf("%s(%d, %d): %d, want %d; there is a watch: %t", names[a.kind], a.x, a.y, outcome, want, w.is)
	}
	if outcome != api.Done {
		return
	}
	switch w.is = a.kind == watch; a.kind {
	case watch:
		w.watched++
	case unwatch:
		w.cut++
	case claim:
		w.claims++
	}
}

// wantNoneLeft is of a pair of which it is looked for the end behind each Watch: none of their watches may be left, and each that wasn't cut off was claimed once.
func (s *stage) wantNoneLeft(x, y int) {
	if w := s.told[x][y]; w.is || w.claims != w.watched-w.cut {
		s.t.Errorf("%d watches %d: %+v", x, y, w)
	}
}

// P19.4: all orders of a few threads.
func TestEveryOrder(t *testing.T) {
	met := map[[2]int]int{}
	for i, c := range []struct {
		atLeast int
		cast
	}{
		{12, cast{2, [][2]int{{1, 2}}, nil, [][]act{watches(1, 2), ends(2, 1)}}},
		{12, cast{2, [][2]int{{2, 1}}, nil, [][]act{watches(2, 1), ends(1, 2)}}},
		{7, cast{2, [][2]int{{1, 2}}, acts(1, 2, watch), [][]act{watches(1, 2), ends(2, 1)}}},
		{12, cast{2, [][2]int{{1, 2}}, acts(1, 2, watch, claim), [][]act{watches(1, 2), ends(2, 1)}}},
		{12, cast{1, [][2]int{{1, 1}}, nil, [][]act{watches(1, 1), ends(1, 1)}}},
		{3000, cast{2, [][2]int{{1, 2}}, nil, [][]act{watches(1, 2), watches(1, 2), ends(2, 1)}}},
		{1500, cast{2, [][2]int{{1, 2}}, nil, [][]act{watches(1, 2), acts(1, 2, unwatch), ends(2, 1), acts(1, 2, claim)}}},
		{50, cast{2, [][2]int{{1, 2}}, nil, [][]act{slices.Concat(watches(1, 2), acts(1, 2, unwatch), watches(1, 2)), ends(2, 1)}}},
		{9000, cast{3, [][2]int{{1, 2}, {3, 2}}, nil, [][]act{watches(1, 2), watches(3, 2), ends(2, 1, 3)}}},
		{2000, cast{3, [][2]int{{1, 2}, {1, 3}}, nil, [][]act{slices.Concat(watches(1, 2), watches(1, 3)), ends(2, 1), ends(3, 1)}}},
		{250, cast{2, [][2]int{{1, 2}, {2, 1}}, nil, [][]act{slices.Concat(watches(1, 2), ends(1, 2)), slices.Concat(watches(2, 1), ends(2, 1))}}},
		{24, cast{2, nil, acts(2, 1, watch), [][]act{acts(2, 1, claim), acts(2, 1, claim), acts(2, 1, claim), acts(2, 1, claim)}}},
		{200, cast{2, nil, acts(2, 1, watch), [][]act{acts(2, 1, unwatch), acts(2, 1, unwatch), acts(2, 1, claim), acts(2, 1, claim)}}},
		{350, cast{2, nil, nil, [][]act{acts(2, 1, watch), acts(2, 1, watch), acts(2, 1, unwatch), acts(2, 1, claim)}}},
		{3000, cast{2, nil, acts(2, 1, watch), [][]act{acts(2, 1, unwatch, watch), acts(2, 1, watch, unwatch), acts(2, 1, claim, claim)}}},
		{6000, cast{2, nil, acts(2, 2, watch, claim), [][]act{acts(2, 2, watch, unwatch), acts(2, 2, watch), acts(2, 2, claim), acts(2, 2, unwatch)}}},
	} {
		t.Run(fmt.Sprint(i), func(t *testing.T) {
			plays := trial.EveryOrder(func(pick func(int) int) { newStage(t, c.cast, met).play(pick) })
			if plays < c.atLeast {
				t.Errorf("%d orders", plays)
			}
		})
	}
	trial.Met(t, met, played)
}

// drawn makes a cast: watchers, who look for the end behind each Watch, and some who end.
func drawn(draw *rand.Rand) cast {
	c := cast{actors: []int{1, 2, 2, 3, api.MaxActors}[draw.Intn(5)]}
	few := 1 + draw.Intn(c.actors) // of whom so many are watched
	for range 1 + draw.Intn(6) {
		var row []act
		for range draw.Intn(8) {
			x, y := 1+draw.Intn(c.actors), 1+draw.Intn(few)
			row = append(row, [][]act{watches(x, y), watches(x, y), acts(x, y, unwatch), acts(x, y, claim)}[draw.Intn(4)]...)
		}
		c.rows = append(c.rows, row)
	}
	for y := 1; y <= few; y++ {
		if draw.Intn(3) > 0 {
			c.end(y)
		}
	}
	return c
}

// end lets y end, whoever may watch it.
func (c *cast) end(y int) {
	var watchers []int
	for x := 1; x <= c.actors; x++ {
		watchers = append(watchers, x)
		c.looked = append(c.looked, [2]int{x, y})
	}
	c.rows = append(c.rows, ends(y, watchers...))
}

// P19.4: some orders of many threads.
func TestManyOrders(t *testing.T) {
	met := map[[2]int]int{}
	for seed := range int64(4000) {
		draw := rand.New(rand.NewSource(seed))
		newStage(t, drawn(draw), met).play(draw.Intn)
	}
	trial.Met(t, met, played)
}
