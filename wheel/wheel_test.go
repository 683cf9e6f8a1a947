package wheel_test

import (
	"math"
	"math/rand"
	"slices"
	"testing"

	"troupe/api"
	"troupe/wheel"
)

// Numbers of ticks at which a wheel is about to turn, has turned, or stands within a turn, up to some rounds of the greatest one.
var nows = []int{0, 1, 5, 7, 8, 9, 56, 63, 64, 65, 448, 511, 512, 513, 1000, 3584, 4032, 4088, 4095, 4096, 4097, 8191, 8192, 32767, 32768, 36863, 262143, 262144, 300001}

func wantAdd(t *testing.T, w *wheel.Wheel, id uint64, delay int, want api.Errno) {
	t.Helper()
	if e := w.Add(id, delay); e != want {
		t.Errorf("Add(%d, %d) at %d = %d, want %d", id, delay, w.Now(), e, want)
	}
}

func wantCut(t *testing.T, w *wheel.Wheel, id uint64, want bool) {
	t.Helper()
	if ok := w.Cut(id); ok != want {
		t.Errorf("Cut(%d) at %d = %t, want %t", id, w.Now(), ok, want)
	}
}

func wantTick(t *testing.T, w *wheel.Wheel, want ...uint64) {
	t.Helper()
	if got := w.Tick(); !slices.Equal(got, want) {
		t.Errorf("Tick to %d = %v, want %v", w.Now(), got, want)
	}
}

// quiet lets k ticks go by that tell nothing.
func quiet(t *testing.T, w *wheel.Wheel, k int) {
	t.Helper()
	for range k {
		wantTick(t, w)
	}
}

func wantHeld(t *testing.T, w *wheel.Wheel, now int, ids ...uint64) {
	t.Helper()
	if got := w.Now(); got != now {
		t.Errorf("Now = %d, want %d", got, now)
	}
	if got := w.Len(); got != len(ids) {
		t.Errorf("Len at %d = %d, want %d", now, got, len(ids))
	}
	if got := w.Ids(); !slices.Equal(got, ids) {
		t.Errorf("Ids at %d = %v, want %v", now, got, ids)
	}
}

func wantTimer(t *testing.T, w *wheel.Wheel, id uint64, due, level, slot int) {
	t.Helper()
	if got, ok := w.Due(id); got != due || !ok {
		t.Errorf("Due(%d) at %d = %d, %t, want %d, true", id, w.Now(), got, ok, due)
	}
	if l, s, ok := w.Where(id); l != level || s != slot || !ok {
		t.Errorf("Where(%d) at %d = %d, %d, %t, want %d, %d, true", id, w.Now(), l, s, ok, level, slot)
	}
}

func wantNoTimer(t *testing.T, w *wheel.Wheel, ids ...uint64) {
	t.Helper()
	for _, id := range ids {
		if due, ok := w.Due(id); due != 0 || ok {
			t.Errorf("Due(%d) at %d = %d, %t, want 0, false", id, w.Now(), due, ok)
		}
		if l, s, ok := w.Where(id); l != 0 || s != 0 || ok {
			t.Errorf("Where(%d) at %d = %d, %d, %t, want 0, 0, false", id, w.Now(), l, s, ok)
		}
		wantCut(t, w, id, false)
	}
}

// at makes a wheel without timers whose now is that.
func at(t *testing.T, now int) *wheel.Wheel {
	t.Helper()
	w := wheel.New()
	quiet(t, w, now)
	return w
}

// full makes a wheel of as many timers as there can be, of the ids 1 to 64, all of that delay.
func full(t *testing.T, delay int) (*wheel.Wheel, []uint64) {
	t.Helper()
	w := wheel.New()
	var ids []uint64
	for i := range api.MaxTimers {
		ids = append(ids, uint64(i+1))
		wantAdd(t, w, ids[i], delay, api.OK)
	}
	return w, ids
}

// plain is a wheel as the chapter's words have it: no wheels, but a list of timers in the order in which they were added.
type plain struct {
	now    int
	timers []timer
}

type timer struct {
	id  uint64
	due int
}

func (p *plain) at(id uint64) int {
	return slices.IndexFunc(p.timers, func(t timer) bool { return t.id == id })
}

func (p *plain) add(id uint64, delay int) api.Errno {
	switch {
	case delay < 1 || delay > 4095:
		return api.ErrArg
	case p.at(id) >= 0:
		return api.ErrThere
	case len(p.timers) == 64:
		return api.ErrFull
	}
	p.timers = append(p.timers, timer{id, p.now + delay})
	return api.OK
}

func (p *plain) cut(id uint64) bool {
	at := p.at(id)
	if at >= 0 {
		p.timers = slices.Delete(p.timers, at, at+1)
	}
	return at >= 0
}

func (p *plain) tick() []uint64 {
	p.now++
	var told []uint64
	p.timers = slices.DeleteFunc(p.timers, func(t timer) bool {
		if t.due == p.now {
			told = append(told, t.id)
		}
		return t.due == p.now
	})
	return told
}

func (p *plain) ids() []uint64 {
	var ids []uint64
	for _, t := range p.timers {
		ids = append(ids, t.id)
	}
	return ids
}

// where counts a tick's digits one by one, and those above digit 3 as one.
func where(due, now int) (level, slot int) {
	digits := func(n int) [5]int { return [5]int{n % 8, n / 8 % 8, n / 64 % 8, n / 512 % 8, n / 4096} }
	a, b := digits(due), digits(now)
	for l := range 5 {
		if a[l] != b[l] {
			level = min(l, 3)
		}
	}
	return level, a[level]
}

// wantAsPlain holds all that can be asked against the plain wheel.
func wantAsPlain(t *testing.T, w *wheel.Wheel, p *plain) {
	t.Helper()
	wantHeld(t, w, p.now, p.ids()...)
	for _, one := range p.timers {
		level, slot := where(one.due, p.now)
		wantTimer(t, w, one.id, one.due, level, slot)
	}
}

func TestExamplesOfTheChapter(t *testing.T) {
	w := wheel.New()
	wantAdd(t, w, 5, 3, api.OK)
	wantAdd(t, w, 7, 20, api.OK)
	wantAdd(t, w, 5, 1, api.ErrThere)
	wantTimer(t, w, 5, 3, 0, 3)
	wantTimer(t, w, 7, 20, 1, 2)
	wantTick(t, w)
	wantTick(t, w)
	wantTick(t, w, 5)
	quiet(t, w, 13)
	wantHeld(t, w, 16, 7)
	wantTimer(t, w, 7, 20, 0, 4)
	quiet(t, w, 3)
	wantTick(t, w, 7)
	wantHeld(t, w, 20)
}

// P8.1
func TestNewHasNoTimers(t *testing.T) {
	w := wheel.New()
	wantHeld(t, w, 0)
	wantNoTimer(t, w, 0, 1, 5, math.MaxUint64)
	quiet(t, w, 5000)
	wantHeld(t, w, 5000)
}

// P8.1
func TestAddRefusesDelays(t *testing.T) {
	for _, now := range []int{0, 3, 4095} {
		w := at(t, now)
		for _, delay := range []int{0, -1, -4095, math.MinInt32, math.MinInt, 4096, 4097, 8191, 1 << 32, 1<<32 + 1, math.MaxInt} {
			wantAdd(t, w, 1, delay, api.ErrArg)
		}
		wantHeld(t, w, now)
		wantNoTimer(t, w, 1)
		wantAdd(t, w, 1, 1, api.OK)
		wantAdd(t, w, 2, api.MaxDelay, api.OK)
		wantHeld(t, w, now, 1, 2)
		wantTick(t, w, 1)
		quiet(t, w, api.MaxDelay-2)
		wantTick(t, w, 2)
	}
}

// P8.1: a timer that is there stays as it was.
func TestAddRefusesAnIdThatIsThere(t *testing.T) {
	for _, delay := range []int{1, 7, 8, 63, 64, 511, 512, 4095} {
		w := wheel.New()
		wantAdd(t, w, 9, delay, api.OK)
		wantAdd(t, w, 8, 4095, api.OK)
		level, slot := where(delay, 0)
		for _, other := range []int{1, 2, 9, 100, 4095, delay} {
			wantAdd(t, w, 9, other, api.ErrThere)
		}
		wantTimer(t, w, 9, delay, level, slot)
		wantHeld(t, w, 0, 9, 8)
		wantCut(t, w, 8, true)
		quiet(t, w, delay-1)
		wantAdd(t, w, 9, 1, api.ErrThere)
		wantTick(t, w, 9)
		wantAdd(t, w, 9, 1, api.OK)
		wantTick(t, w, 9)
		wantHeld(t, w, delay+1)
	}
}

// P8.1
func TestAnyNumberIsAnId(t *testing.T) {
	w := wheel.New()
	ids := []uint64{math.MaxUint64, 0, 1 << 63, 1<<32 + 1, 1, 1<<63 - 1}
	for i, id := range ids {
		wantNoTimer(t, w, id)
		wantAdd(t, w, id, 600, api.OK)
		wantAdd(t, w, id, 600, api.ErrThere)
		wantHeld(t, w, 0, ids[:i+1]...)
	}
	quiet(t, w, 599)
	wantTick(t, w, ids...)
	wantNoTimer(t, w, ids...)
}

// P8.1
func TestAddRefusesMoreThanThereCanBe(t *testing.T) {
	w, ids := full(t, 100)
	for _, delay := range []int{1, 100, 4095} {
		wantAdd(t, w, 65, delay, api.ErrFull)
		wantAdd(t, w, 0, delay, api.ErrFull)
	}
	wantHeld(t, w, 0, ids...)
	wantNoTimer(t, w, 65, 0)
	wantCut(t, w, 30, true)
	wantAdd(t, w, 65, 100, api.OK)
	wantAdd(t, w, 30, 100, api.ErrFull)
	ids = append(slices.Delete(ids, 29, 30), 65)
	wantHeld(t, w, 0, ids...)
	quiet(t, w, 99)
	wantAdd(t, w, 30, 1, api.ErrFull)
	wantTick(t, w, ids...)
	wantHeld(t, w, 100)
	for i := range uint64(api.MaxTimers) {
		wantAdd(t, w, i, 1, api.OK)
	}
	wantAdd(t, w, 64, 1, api.ErrFull)
}

// P8.1 and rule 2
func TestOrderOfErrors(t *testing.T) {
	w, ids := full(t, 9)
	for _, id := range []uint64{1, 64, 65} {
		wantAdd(t, w, id, 0, api.ErrArg)
		wantAdd(t, w, id, 4096, api.ErrArg)
	}
	wantAdd(t, w, 1, 3, api.ErrThere)
	wantAdd(t, w, 64, 4095, api.ErrThere)
	wantAdd(t, w, 65, 3, api.ErrFull)
	wantHeld(t, w, 0, ids...)
}

// P8.1: one of several in a slot, and one that has come down.
func TestCutTakesItsTimerAlone(t *testing.T) {
	for _, gone := range []uint64{1, 2, 3} {
		for _, behind := range []int{0, 1, 63, 64, 72, 76} {
			w := wheel.New()
			left := []uint64{1, 2, 3}
			for _, id := range left {
				wantAdd(t, w, id, 77, api.OK)
			}
			quiet(t, w, behind)
			wantCut(t, w, gone, true)
			left = slices.Delete(left, int(gone)-1, int(gone))
			wantNoTimer(t, w, gone)
			wantHeld(t, w, behind, left...)
			quiet(t, w, 76-behind)
			wantTick(t, w, left...)
			quiet(t, w, 5000)
		}
	}
}

// P8.1
func TestWhatIsCutCanBeAddedAnew(t *testing.T) {
	w := wheel.New()
	wantAdd(t, w, 1, 10, api.OK)
	wantAdd(t, w, 2, 10, api.OK)
	wantCut(t, w, 1, true)
	wantAdd(t, w, 1, 10, api.OK)
	wantHeld(t, w, 0, 2, 1)
	wantCut(t, w, 2, true)
	wantAdd(t, w, 2, 700, api.OK)
	wantTimer(t, w, 2, 700, 3, 1)
	quiet(t, w, 9)
	wantTick(t, w, 1)
	wantCut(t, w, 1, false)
	quiet(t, w, 689)
	wantTick(t, w, 2)
}

// P8.2: those of one tick lie high and low by turns ahead of it, as they are added.
func TestTickTellsInTheOrderOfAdding(t *testing.T) {
	for _, due := range []int{4096, 4095, 4100, 4608, 5000} {
		w := wheel.New()
		var told []uint64
		for now := range due {
			left := due - now
			if left <= api.MaxDelay && (len(told) == 0 || left&(left-1) == 0 || left%911 == 0 || (due-left)%640 == 0) {
				id := uint64(now)*7919%10007 + 1 // ids don't rise
				wantAdd(t, w, id, left, api.OK)
				told = append(told, id)
			}
			if now == due-1 {
				wantHeld(t, w, now, told...)
				wantTick(t, w, told...)
			} else {
				wantTick(t, w)
			}
		}
		if len(told) < 12 {
			t.Errorf("only %d timers at %d", len(told), due)
		}
		wantHeld(t, w, due)
	}
}

// P8.2
func TestTickTellsThoseOfItsTickAlone(t *testing.T) {
	for _, now := range nows {
		w := at(t, now)
		for i, delay := range []int{3, 1, 2, 3, 1, 9, 65, 2} {
			wantAdd(t, w, uint64(i), delay, api.OK)
		}
		wantTick(t, w, 1, 4)
		wantTick(t, w, 2, 7)
		wantTick(t, w, 0, 3)
		quiet(t, w, 5)
		wantTick(t, w, 5)
		wantHeld(t, w, now+9, 6)
		quiet(t, w, 55)
		wantTick(t, w, 6)
	}
}

// P8.3
func TestIdsStandInTheOrderOfAdding(t *testing.T) {
	w := wheel.New()
	ids := []uint64{9, 2, 7, 4, 1, 8}
	for i, delay := range []int{4095, 3, 600, 70, 3, 10} {
		wantAdd(t, w, ids[i], delay, api.OK)
	}
	wantHeld(t, w, 0, 9, 2, 7, 4, 1, 8)
	quiet(t, w, 2)
	wantTick(t, w, 2, 1)
	wantAdd(t, w, 2, 1, api.OK)
	wantAdd(t, w, 1, 4095, api.OK)
	wantHeld(t, w, 3, 9, 7, 4, 8, 2, 1)
	wantTick(t, w, 2)
	quiet(t, w, 4)
	wantHeld(t, w, 8, 9, 7, 4, 8, 1)
	wantCut(t, w, 7, true)
	wantHeld(t, w, 8, 9, 4, 8, 1)
}

// P8.3
func TestWhereOfDelaysFromTheStartOn(t *testing.T) {
	for _, c := range []struct{ delay, level, slot int }{
		{1, 0, 1}, {7, 0, 7}, {8, 1, 1}, {9, 1, 1}, {15, 1, 1}, {16, 1, 2}, {63, 1, 7},
		{64, 2, 1}, {65, 2, 1}, {127, 2, 1}, {128, 2, 2}, {511, 2, 7},
		{512, 3, 1}, {1023, 3, 1}, {1024, 3, 2}, {4094, 3, 7}, {4095, 3, 7},
	} {
		w := wheel.New()
		wantAdd(t, w, 1, c.delay, api.OK)
		wantTimer(t, w, 1, c.delay, c.level, c.slot)
	}
}

// P8.3: a delay of one may lead to the highest wheel.
func TestWhereAheadOfATurn(t *testing.T) {
	for _, c := range []struct{ now, delay, level, slot int }{
		{7, 1, 1, 1}, {6, 1, 0, 7}, {6, 2, 1, 1}, {63, 1, 2, 1}, {63, 8, 2, 1}, {511, 1, 3, 1}, {511, 512, 3, 1}, {511, 513, 3, 2},
		{448, 63, 1, 7}, {448, 64, 3, 1}, {8, 7, 0, 7}, {8, 8, 1, 2}, {1000, 23, 1, 7}, {1000, 24, 3, 2},
	} {
		w := at(t, c.now)
		wantAdd(t, w, 1, c.delay, api.OK)
		wantTimer(t, w, 1, c.now+c.delay, c.level, c.slot)
		quiet(t, w, c.delay-1)
		wantTick(t, w, 1)
	}
}

// P8.3: where a digit above 3 differs it is the slot of digit 3, be it the one at which now stands.
func TestWhereBeyondTheHighestWheel(t *testing.T) {
	for _, c := range []struct{ now, delay, slot int }{
		{4095, 1, 0}, {4095, 8, 0}, {4095, 512, 0}, {4095, 513, 1}, {4095, 4095, 7},
		{1, 4095, 0}, {511, 4095, 0}, {511, 3585, 0}, {513, 4095, 1}, {513, 3583, 0}, {1023, 4095, 1}, {1023, 3585, 1}, {1023, 3584, 0},
		{3584, 512, 0}, {3585, 4095, 7}, {8191, 1, 0}, {32767, 1, 0}, {32767, 4095, 7}, {32769, 4095, 0}, {262143, 600, 1},
	} {
		w := at(t, c.now)
		wantAdd(t, w, 1, c.delay, api.OK)
		wantTimer(t, w, 1, c.now+c.delay, 3, c.slot)
		quiet(t, w, c.delay-1)
		wantTick(t, w, 1)
		wantHeld(t, w, c.now+c.delay)
	}
}

// comesDown looks where a timer is now that was on that level a tick ago, and answers its level.
func comesDown(t *testing.T, w *wheel.Wheel, id uint64, was int) int {
	t.Helper()
	due, _ := w.Due(id)
	level, slot := where(due, w.Now())
	wantTimer(t, w, id, due, level, slot)
	got, _, _ := w.Where(id)
	if got > was {
		t.Errorf("due at %d, at %d: the level rises from %d to %d", due, w.Now(), was, got)
	}
	if got < was && w.Now()%[]int{1, 8, 64, 512}[was] != 0 {
		t.Errorf("due at %d, at %d: it comes down from level %d to %d within a turn", due, w.Now(), was, got)
	}
	return got
}

// P8.4: each is told by just one Tick, the delay-th one, and till then comes down.
func TestTimersComeDown(t *testing.T) {
	delays := []int{1, 2, 7, 8, 9, 57, 63, 64, 65, 100, 448, 511, 512, 513, 1000, 3583, 3584, 3585, 4033, 4094, 4095}
	for _, now := range nows {
		w := at(t, now)
		levels := map[int]int{}
		for _, delay := range delays {
			wantAdd(t, w, uint64(delay), delay, api.OK)
			levels[delay], _ = where(now+delay, now)
		}
		for k := 1; k <= 2*api.MaxDelay && !t.Failed(); k++ {
			if !slices.Contains(delays, k) {
				wantTick(t, w)
			} else {
				wantTick(t, w, uint64(k))
				wantNoTimer(t, w, uint64(k))
			}
			for _, delay := range delays {
				if delay > k {
					levels[delay] = comesDown(t, w, uint64(delay), levels[delay])
				}
			}
		}
	}
}

// P8.4: as many at a time as there can be, till each delay had its turn.
func TestEachDelay(t *testing.T) {
	for _, now := range []int{0, 1, 509, 4095, 5003} {
		for first := 1; first <= api.MaxDelay; first += api.MaxTimers {
			w := at(t, now)
			for delay := first; delay < first+api.MaxTimers && delay <= api.MaxDelay; delay++ {
				wantAdd(t, w, uint64(delay), delay, api.OK)
			}
			for k := 1; k <= 2*api.MaxDelay && !t.Failed(); k++ {
				if first <= k && k < first+api.MaxTimers && k <= api.MaxDelay {
					wantTick(t, w, uint64(k))
				} else {
					wantTick(t, w)
				}
			}
			wantHeld(t, w, now+2*api.MaxDelay)
		}
	}
}

// Rule 5
func TestAnswersAreNewMemory(t *testing.T) {
	w := wheel.New()
	for i := range uint64(6) {
		wantAdd(t, w, i, 2+int(i%2), api.OK)
	}
	spoil := func(list []uint64) {
		list = list[:cap(list)]
		for i := range list {
			list[i] = 77
		}
	}
	first, second := w.Ids(), w.Ids()
	spoil(first)
	wantHeld(t, w, 0, 0, 1, 2, 3, 4, 5)
	quiet(t, w, 1)
	told := w.Tick()
	spoil(second)
	if !slices.Equal(told, []uint64{0, 2, 4}) {
		t.Errorf("an answer has become %v", told)
	}
	spoil(told)
	wantAdd(t, w, 9, 8, api.OK)
	wantHeld(t, w, 2, 1, 3, 5, 9)
	wantTick(t, w, 1, 3, 5)
	quiet(t, w, 6)
	wantTick(t, w, 9)
}

// Rule 5: an answer stays as it was, whatever comes behind it.
func TestAnswersStay(t *testing.T) {
	w := wheel.New()
	for i := range uint64(4) {
		wantAdd(t, w, i, 8, api.OK)
	}
	ids := w.Ids()
	quiet(t, w, 7)
	told := w.Tick()
	for i := range uint64(api.MaxTimers) {
		wantAdd(t, w, 100+i, 8, api.OK)
	}
	for range 16 {
		w.Tick()
	}
	if want := []uint64{0, 1, 2, 3}; !slices.Equal(ids, want) || !slices.Equal(told, want) {
		t.Errorf("answers have become %v and %v", ids, told)
	}
}

// Rule 6
func TestWheelsAreApart(t *testing.T) {
	a, b := wheel.New(), wheel.New()
	wantAdd(t, a, 1, 2, api.OK)
	wantHeld(t, b, 0)
	wantTick(t, a)
	wantAdd(t, b, 1, 2, api.OK)
	wantTimer(t, b, 1, 2, 0, 2)
	wantCut(t, b, 1, true)
	wantHeld(t, a, 1, 1)
	wantTick(t, a, 1)
	wantHeld(t, b, 0)
}

// P8.1 to P8.4: many rows of calls, each the same at every run.
func TestLongRowsOfCalls(t *testing.T) {
	for seed := range int64(40) {
		draw := rand.New(rand.NewSource(seed))
		w, p := wheel.New(), &plain{}
		most := []int{4, 40, 300, 4200}[seed%4]
		ticks := []int{2, 10, 60, 2}[seed/4%4]
		for range 800 {
			id := draw.Uint64() % 80
			switch draw.Intn(6) {
			case 0, 1, 2:
				delay := draw.Intn(most) - 1
				wantAdd(t, w, id, delay, p.add(id, delay))
			case 3:
				wantCut(t, w, id, p.cut(id))
			default:
				for range draw.Intn(ticks) {
					wantTick(t, w, p.tick()...)
				}
			}
			wantAsPlain(t, w, p)
			if p.at(id) < 0 {
				wantNoTimer(t, w, id)
			}
			if t.Failed() {
				t.Fatalf("seed %d", seed)
			}
		}
	}
}

// P8.1 to P8.4: the same, each of whose calls stands just ahead of or behind a turn of the highest wheels.
func TestRowsOfCallsAboutATurn(t *testing.T) {
	for seed := range int64(30) {
		draw := rand.New(rand.NewSource(seed))
		w, p := wheel.New(), &plain{}
		for turn := range 30 {
			for p.now < 512*(turn+1)-4 {
				wantTick(t, w, p.tick()...)
			}
			for range 8 {
				id, delay := draw.Uint64()%64, []int{1, 4, 8, 508, 512, 516, 3584, 4088, 4092, 4095}[draw.Intn(10)]
				wantAdd(t, w, id, delay, p.add(id, delay))
				wantAsPlain(t, w, p)
				wantTick(t, w, p.tick()...)
				wantAsPlain(t, w, p)
			}
			if t.Failed() {
				t.Fatalf("seed %d, turn %d", seed, turn)
			}
		}
	}
}
