package mercy_test

import (
	"math"
	"math/rand"
	"testing"

	"troupe/api"
	"troupe/mercy"
)

func wantAsk(t *testing.T, b *mercy.Budget, child, now int, want bool) {
	t.Helper()
	if got := b.Ask(child, now); got != want {
		t.Errorf("Ask(%d, %d) = %v, want %v", child, now, got, want)
	}
}

func wantLeft(t *testing.T, b *mercy.Budget, child, now, want int) {
	t.Helper()
	if got := b.Left(child, now); got != want {
		t.Errorf("Left(%d, %d) = %d, want %d", child, now, got, want)
	}
}

// wantGiven asks at now till none is given, and holds how many were given.
func wantGiven(t *testing.T, b *mercy.Budget, child, now, want int) {
	t.Helper()
	n := 0
	for n <= want && b.Ask(child, now) {
		n++
	}
	if n != want {
		t.Errorf("at %d child %d was given %d (or more), want %d", now, child, n, want)
	}
}

func TestExamplesOfTheChapter(t *testing.T) {
	b := mercy.New(2, 10)
	wantAsk(t, b, 7, 1, true)
	wantAsk(t, b, 7, 5, true)
	wantAsk(t, b, 7, 10, false)
	wantLeft(t, b, 7, 11, 1)
	wantAsk(t, b, 7, 11, true)
	wantLeft(t, b, 8, 11, 2)
	cases := []api.Case{{Reason: "boom", Do: api.Restart}, {Do: api.Escalate}}
	wantDirective(t, cases, "boom", 2)
	wantDirective(t, cases, "x", 4)
	wantDirective(t, nil, "boom", 3)
}

// P16.2: none was given yet, to nobody, at whatever tick.
func TestNewHasGivenNone(t *testing.T) {
	for _, limit := range limits {
		b := mercy.New(limit, 7)
		for _, child := range numbers {
			for _, now := range nows {
				wantLeft(t, b, child, now, nearest(limit, 0, 100))
			}
		}
	}
}

// P16.2: the limit, and its edges.
func TestNewGivesSoMany(t *testing.T) {
	for _, limit := range limits {
		for _, within := range withins {
			b := mercy.New(limit, within)
			most := nearest(limit, 0, 100)
			wantGiven(t, b, 1, 9000, most)
			wantLeft(t, b, 1, 9000, 0)
			wantGiven(t, b, 1, 9000+nearest(within, 1, 4095), most)
		}
	}
}

// P16.2: the window, and its edges.
func TestNewGivesWithinSoManyTicks(t *testing.T) {
	for _, within := range withins {
		b := mercy.New(2, within)
		ticks := nearest(within, 1, 4095)
		wantGiven(t, b, 1, 9000, 2)
		wantAsk(t, b, 1, 9000+ticks-1, false)
		wantLeft(t, b, 1, 9000+ticks-1, 0)
		wantLeft(t, b, 1, 9000+ticks, 2)
		wantAsk(t, b, 1, 9000+ticks, true)
		wantLeft(t, b, 1, 9000+ticks, 1)
	}
}

// P16.2: each restart comes back by itself, at its own tick.
func TestRestartsComeBackOneByOne(t *testing.T) {
	b := mercy.New(4, 10)
	for i, now := range []int{100, 103, 103, 108} {
		wantLeft(t, b, 5, now, 4-i)
		wantAsk(t, b, 5, now, true)
	}
	for now, left := range map[int]int{108: 0, 109: 0, 110: 1, 111: 1, 112: 1, 113: 3, 117: 3, 118: 4, 119: 4, 1 << 40: 4} {
		wantLeft(t, b, 5, now, left)
	}
}

// P16.2: only what was given counts, not what was refused.
func TestRefusedAsksChangeNothing(t *testing.T) {
	b := mercy.New(2, 10)
	wantAsk(t, b, 3, 20, true)
	wantAsk(t, b, 3, 24, true)
	for now := 24; now < 30; now++ {
		for range 150 {
			wantAsk(t, b, 3, now, false)
		}
	}
	wantLeft(t, b, 3, 30, 1)
	wantLeft(t, b, 3, 34, 2)
	wantAsk(t, b, 3, 30, true)
	wantAsk(t, b, 3, 30, false)
	wantAsk(t, b, 3, 33, false)
	wantLeft(t, b, 3, 34, 1)
	wantLeft(t, b, 3, 40, 2)
}

// P16.2: of a limit of 0 none is given, ever.
func TestNoneIsGivenOfALimitOfNone(t *testing.T) {
	for _, limit := range []int{0, -1, math.MinInt} {
		b := mercy.New(limit, 1)
		for _, child := range numbers {
			for _, now := range nows {
				wantAsk(t, b, child, now, false)
				wantLeft(t, b, child, now, 0)
				b.Forget(child)
				wantAsk(t, b, child, now, false)
			}
		}
	}
}

// The chapter's Words: what is below 0 is 0.
func TestTicksBelowTheFirstOne(t *testing.T) {
	for _, now := range []int{math.MinInt, math.MinInt + 1, math.MinInt32, -4095, -1} {
		b := mercy.New(2, 3)
		wantAsk(t, b, 1, now, true)
		wantAsk(t, b, 1, 2, true)
		wantAsk(t, b, 1, 2, false)
		for _, other := range []int{math.MinInt, -4095, -3, -1, 0} {
			wantAsk(t, b, 1, other, false)
			wantLeft(t, b, 1, other, 0)
		}
		wantLeft(t, b, 1, 3, 1)
		wantAsk(t, b, 2, 0, true)
		wantLeft(t, b, 2, now, 1)
	}
}

// The chapter's Words: what is above 2^40 is 2^40.
func TestTicksAboveTheLastOne(t *testing.T) {
	const last = 1 << 40
	for _, now := range []int{last + 1, last + 3, last + 4096, math.MaxInt - 1, math.MaxInt} {
		b := mercy.New(2, 3)
		wantAsk(t, b, 1, last-2, true)
		wantAsk(t, b, 1, now, true)
		for _, other := range []int{last, last + 1, last + 9, 1 << 41, math.MaxInt} {
			wantAsk(t, b, 1, other, false)
			wantLeft(t, b, 1, other, 0)
		}
		wantGiven(t, b, 2, now, 2)
		wantLeft(t, b, 2, last, 0)
		wantGiven(t, b, 3, last-3, 2)
		wantLeft(t, b, 3, now, 2)
		wantGiven(t, b, 4, last-2, 2)
		wantLeft(t, b, 4, now, 0)
	}
}

// P16.2: a tick that falls sees all that was given at ticks above its window, those behind it too.
func TestTicksThatFall(t *testing.T) {
	b := mercy.New(2, 10)
	wantAsk(t, b, 1, 100, true)
	wantLeft(t, b, 1, 5, 1)
	wantAsk(t, b, 1, 5, true)
	wantAsk(t, b, 1, 5, false)
	wantLeft(t, b, 1, 0, 0)
	wantLeft(t, b, 1, 14, 0)
	wantLeft(t, b, 1, 15, 1)
	wantLeft(t, b, 1, 109, 1)
	wantGiven(t, b, 1, 110, 2)
	for _, now := range []int{-1, 0, 15, 90, 109, 110, 119} {
		wantAsk(t, b, 1, now, false)
		wantLeft(t, b, 1, now, 0)
	}
	wantLeft(t, b, 1, 120, 2)
}

// P16.2: what a tick that falls was given stands in its place among the others.
func TestTicksThatFallComeBackInTheirOrder(t *testing.T) {
	p := begin(t, 5, 20)
	for _, now := range []int{50, 30, 40, 30, 45, 70, 60, 65, 10, 200, 71, 72} {
		p.ask(1, now)
		for then := range 260 {
			p.left(1, then)
		}
	}
}

// P16.2: how many are left hangs on what Ask would give, and looking gives none.
func TestLeftIsWhatAskWouldGive(t *testing.T) {
	draw := rand.New(rand.NewSource(4))
	for range 300 {
		limit, within, now := draw.Intn(9), 1+draw.Intn(12), 0
		seen, asked := mercy.New(limit, within), mercy.New(limit, within)
		for range draw.Intn(30) {
			now += draw.Intn(4)
			for range 3 {
				seen.Left(1, now)
			}
			wantAsk(t, seen, 1, now, asked.Ask(1, now))
		}
		now += draw.Intn(6)
		left := seen.Left(1, now)
		wantLeft(t, seen, 1, now, left)
		wantGiven(t, asked, 1, now, left)
		wantGiven(t, seen, 1, now, left)
	}
}

// P16.2
func TestForget(t *testing.T) {
	b := mercy.New(2, 10)
	for _, child := range []int{1, 2, 3} {
		wantGiven(t, b, child, 50, 2)
	}
	b.Forget(2)
	wantLeft(t, b, 2, 50, 2)
	wantLeft(t, b, 2, 0, 2)
	wantLeft(t, b, 1, 59, 0)
	wantLeft(t, b, 3, 59, 0)
	wantGiven(t, b, 2, 52, 2)
	wantLeft(t, b, 2, 61, 0)
	b.Forget(2)
	b.Forget(2)
	wantGiven(t, b, 2, 53, 2)
	wantLeft(t, b, 1, 60, 2)
}

// P16.2: who was given none is forgotten without a trace, too.
func TestForgetOfThoseThatWereGivenNone(t *testing.T) {
	b := mercy.New(2, 10)
	for _, child := range numbers {
		b.Forget(child)
		wantGiven(t, b, child, 50, 2)
		b.Forget(child + 100)
		wantLeft(t, b, child, 59, 0)
	}
}

// P16.3: what one child is given is nothing to another one, whatever their numbers.
func TestChildrenAreApart(t *testing.T) {
	b := mercy.New(3, 5)
	for _, child := range numbers {
		wantGiven(t, b, child, 40, 3)
		wantLeft(t, b, child, 44, 0)
	}
	b.Forget(0)
	for _, child := range numbers {
		left := 0
		if child == 0 {
			left = 3
		}
		wantLeft(t, b, child, 44, left)
		wantLeft(t, b, child, 45, 3)
	}
}

// Rule 6
func TestBudgetsAreApart(t *testing.T) {
	a, b := mercy.New(2, 10), mercy.New(2, 10)
	wantGiven(t, a, 1, 5, 2)
	wantLeft(t, b, 1, 5, 2)
	wantGiven(t, b, 1, 9, 2)
	a.Forget(1)
	wantLeft(t, a, 1, 9, 2)
	wantLeft(t, b, 1, 18, 0)
}

// P16.3: as long as ticks don't fall no window has more than limit restarts of a child, and when within ticks have passed all are there again.
func TestNoWindowHasMoreThanTheLimit(t *testing.T) {
	for seed := range int64(60) {
		draw := rand.New(rand.NewSource(seed))
		limit, within := draw.Intn(6), 1+draw.Intn(9)
		b := mercy.New(limit, within)
		given, now := map[grant]int{}, 0
		for range 400 {
			now += draw.Intn(5) / 2
			child := draw.Intn(3)
			if b.Ask(child, now) {
				given[grant{child, now}]++
			}
			wantLeft(t, b, child, now+within, limit)
		}
		for child := range 3 {
			for end := range now + within {
				sum := 0
				for tick := end - within + 1; tick <= end; tick++ {
					sum += given[grant{child, tick}]
				}
				if sum > limit {
					t.Fatalf("seed %d: child %d was given %d within %d ticks up to %d, want at most %d", seed, child, sum, within, end, limit)
				}
			}
		}
	}
}

// P16.2: every row of five Asks at ticks from 0 to 4, risen or fallen, with all that is left behind it.
func TestAllShortRowsOfAsks(t *testing.T) {
	for limit := range 4 {
		for within := 1; within <= 4; within++ {
			for row := range 5 * 5 * 5 * 5 * 5 {
				p := begin(t, limit, within)
				for range 5 {
					p.ask(1, row%5)
					row /= 5
				}
				for now := -1; now < 10; now++ {
					p.left(1, now)
				}
			}
			if t.Failed() {
				t.Fatalf("limit %d within %d", limit, within)
			}
		}
	}
}

// P16.2, P16.3: many rows of calls, each the same at every run, against all restarts that were given.
func TestLongRowsOfCalls(t *testing.T) {
	for seed := range int64(200) {
		draw := rand.New(rand.NewSource(seed))
		p := begin(t, draw.Intn(7)-1, draw.Intn(25)-1)
		falls, now := draw.Intn(3), draw.Intn(30)-10
		for range 250 {
			now += draw.Intn(6) / 2
			if draw.Intn(4) < falls {
				now -= draw.Intn(12)
			}
			p.drawnCall(draw, now)
		}
		if t.Failed() {
			t.Fatalf("seed %d", seed)
		}
	}
}

// P16.2: the greatest budgets, up to the last tick and beyond.
func TestLongRowsOfCallsOfGreatBudgets(t *testing.T) {
	for seed := range int64(8) {
		draw := rand.New(rand.NewSource(seed))
		p := begin(t, 95+draw.Intn(10), 4090+draw.Intn(10))
		now := 1<<40 - 20000
		for range 900 {
			now += draw.Intn(60) - draw.Intn(20)
			p.drawnCall(draw, now)
		}
		if t.Failed() {
			t.Fatalf("seed %d", seed)
		}
	}
}

// P16.2: a budget goes on as it began, however many it has given.
func TestABudgetGoesOn(t *testing.T) {
	b := mercy.New(3, 2)
	for now := 0; now < 200000; now += 2 {
		for range 3 {
			wantAsk(t, b, 1, now, true)
		}
		wantAsk(t, b, 1, now+1, false)
		if t.Failed() {
			t.FailNow()
		}
	}
}
