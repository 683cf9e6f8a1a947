package stash_test

import (
	"math"
	"math/rand"
	"slices"
	"testing"

	"troupe/api"
	"troupe/stash"
)

// rooms are about the edges of New, and beyond them.
var rooms = []int{math.MinInt, math.MinInt + 1, math.MinInt32, -64, -2, -1, 0, 1, 2, 3, 5, 31, 62, 63, 64, 65, 66, 128, 256, 1 << 32, 1<<32 + 1, math.MaxInt}

// roomOf tells how much room New(room) gives.
func roomOf(room int) int {
	switch {
	case room < 0:
		return 0
	case room > 64:
		return 64
	}
	return room
}

// plain is a line as the chapter tells it: two rows, each with its first one ahead.
type plain struct {
	room         int
	stash, front []uint64
}

// pair is a line and the plain one to which the same is done.
type pair struct {
	t    *testing.T
	got  *stash.Line
	want plain
}

func begin(t *testing.T, room int) *pair {
	return &pair{t: t, got: stash.New(room), want: plain{room: roomOf(room)}}
}

// look holds all that a line tells against the plain one.
func (p *pair) look() {
	p.t.Helper()
	p.wantLists(p.want.stash, p.want.front)
}

func (p *pair) wantLists(stashed, front []uint64) {
	p.t.Helper()
	if got := p.got.Stashed(); !slices.Equal(got, stashed) {
		p.t.Errorf("Stashed = %v, want %v", got, stashed)
	}
	if got := p.got.Front(); !slices.Equal(got, front) {
		p.t.Errorf("Front = %v, want %v", got, front)
	}
}

// stash stashes each of these.
func (p *pair) stash(ids ...uint64) {
	p.t.Helper()
	for _, id := range ids {
		want := api.OK
		if len(p.want.stash) == p.want.room {
			want = api.ErrFull
		} else {
			p.want.stash = append(p.want.stash, id)
		}
		if e := p.got.Stash(id); e != want {
			p.t.Errorf("Stash(%d) = %d, want %d", id, e, want)
		}
		p.look()
	}
}

func (p *pair) unstash() {
	p.t.Helper()
	want := len(p.want.stash)
	p.want.front = slices.Concat(p.want.stash, p.want.front)
	p.want.stash = nil
	if got := p.got.Unstash(); got != want {
		p.t.Errorf("Unstash = %d, want %d", got, want)
	}
	p.look()
}

func (p *pair) next() {
	p.t.Helper()
	want, there := uint64(0), len(p.want.front) > 0
	if there {
		want, p.want.front = p.want.front[0], p.want.front[1:]
	}
	if got, ok := p.got.Next(); got != want || ok != there {
		p.t.Errorf("Next = %d, %v, want %d, %v", got, ok, want, there)
	}
	p.look()
}

func (p *pair) clear() {
	p.t.Helper()
	want := slices.Concat(p.want.front, p.want.stash)
	p.want.stash, p.want.front = nil, nil
	if got := p.got.Clear(); !slices.Equal(got, want) {
		p.t.Errorf("Clear = %v, want %v", got, want)
	}
	p.look()
}

// row answers n ids from first on.
func row(first uint64, n int) []uint64 {
	ids := make([]uint64, n)
	for i := range ids {
		ids[i] = first + uint64(i)
	}
	return ids
}

func TestExamplesOfTheChapter(t *testing.T) {
	l := stash.New(2)
	for i, want := range []api.Errno{api.OK, api.OK, api.ErrFull} {
		if e := l.Stash(uint64(5 + i)); e != want {
			t.Errorf("Stash(%d) = %d, want %d", 5+i, e, want)
		}
	}
	if n := l.Unstash(); n != 2 {
		t.Errorf("Unstash = %d, want 2", n)
	}
	if id, ok := l.Next(); id != 5 || !ok {
		t.Errorf("Next = %d, %v, want 5, true", id, ok)
	}
	if e := l.Stash(7); e != api.OK {
		t.Errorf("Stash(7) = %d, want 0", e)
	}
	if n := l.Unstash(); n != 1 {
		t.Errorf("Unstash = %d, want 1", n)
	}
	if ids := l.Front(); !slices.Equal(ids, []uint64{7, 6}) {
		t.Errorf("Front = %v, want 7 6", ids)
	}
	if ids := l.Clear(); !slices.Equal(ids, []uint64{7, 6}) {
		t.Errorf("Clear = %v, want 7 6", ids)
	}
}

// P11.1
func TestNewIsEmpty(t *testing.T) {
	for _, room := range rooms {
		p := begin(t, room)
		p.look()
		p.next()
		p.unstash()
		p.clear()
		p.next()
	}
}

// P11.1: the room, held behind each Stash, till twice as many were tried.
func TestNewGivesSoMuchRoom(t *testing.T) {
	for _, room := range rooms {
		p := begin(t, room)
		p.stash(row(1000, 2*api.MaxSlots+3)...)
		if got, want := len(p.got.Stashed()), roomOf(room); got != want {
			t.Errorf("New(%d) has room for %d, want %d", room, got, want)
		}
	}
}

// P11.1 and rule 3: what doesn't go in changes nothing, however often it is tried.
func TestStashRefusesWhatHasNoRoom(t *testing.T) {
	for _, room := range []int{-1, 0, 1, 2, 64, 65} {
		p := begin(t, room)
		p.stash(row(7, roomOf(room))...)
		p.unstash()
		p.stash(row(500, roomOf(room))...)
		for _, id := range []uint64{0, 1, 7, 500, math.MaxUint64} {
			if e := p.got.Stash(id); e != api.ErrFull {
				t.Errorf("New(%d), full: Stash(%d) = %d, want %d", room, id, e, api.ErrFull)
			}
			p.look()
		}
	}
}

// P11.1: room is of the stash alone: whatever stands in the front takes none.
func TestTheFrontTakesNoRoom(t *testing.T) {
	for _, room := range []int{1, 2, 3, 64} {
		p := begin(t, room)
		for round := range 5 {
			ids := row(uint64(1000*round), room+1)
			p.stash(ids...)
			p.unstash()
		}
		if got, want := len(p.got.Front()), 5*room; got != want {
			t.Errorf("New(%d): %d stand in the front, want %d", room, got, want)
		}
	}
}

// P11.1: an Unstash and a Clear make room, a Next doesn't.
func TestWhatMakesRoom(t *testing.T) {
	p := begin(t, 2)
	p.stash(1, 2)
	p.unstash()
	p.stash(3, 4)
	p.next()
	p.stash(5)
	p.wantLists([]uint64{3, 4}, []uint64{2})
	p.unstash()
	p.stash(6, 7, 8)
	p.wantLists([]uint64{6, 7}, []uint64{3, 4, 2})
	p.clear()
	p.stash(9, 10, 11)
	p.wantLists([]uint64{9, 10}, nil)
}

// P11.1: any number is an id, and one that stands there already stands there once more.
func TestStashTakesAnyNumber(t *testing.T) {
	ids := []uint64{0, 1, 1, 0, 64, 1 << 31, 1 << 32, 1<<32 + 1, 1<<63 - 1, 1 << 63, math.MaxUint64, math.MaxUint64, 0}
	p := begin(t, len(ids))
	p.stash(ids...)
	p.wantLists(ids, nil)
	p.unstash()
	p.wantLists(nil, ids)
	p.stash(ids...)
	p.wantLists(ids, ids)
	for range len(ids) + 2 {
		p.next()
	}
	p.clear()
}

// P11.2: in the order of the stash, not of the ids.
func TestUnstashKeepsTheOrder(t *testing.T) {
	for n := range 65 {
		p := begin(t, 64)
		for i := range n {
			p.stash(uint64(i) * 7919 % 1009)
		}
		p.unstash()
		for range n + 1 {
			p.next()
		}
	}
}

// P11.2: ahead of all that stands in the front, and of no more than that.
func TestUnstashStandsAhead(t *testing.T) {
	p := begin(t, 3)
	p.stash(1, 2, 3)
	p.unstash()
	p.stash(4, 5)
	p.unstash()
	p.wantLists(nil, []uint64{4, 5, 1, 2, 3})
	p.next()
	p.stash(6, 7, 8)
	p.unstash()
	p.wantLists(nil, []uint64{6, 7, 8, 5, 1, 2, 3})
	p.next()
	p.next()
	p.stash(6)
	p.wantLists([]uint64{6}, []uint64{8, 5, 1, 2, 3})
}

// P11.2: an Unstash of an empty stash comes to 0, whatever stands in the front.
func TestUnstashOfNone(t *testing.T) {
	p := begin(t, 2)
	p.unstash()
	p.stash(1, 2)
	p.unstash()
	for range 2 {
		p.unstash()
		p.wantLists(nil, []uint64{1, 2})
	}
	p.next()
	p.unstash()
	p.wantLists(nil, []uint64{2})
}

// P11.2: what is put aside isn't the next one till it is taken up again.
func TestNextIsOfTheFrontAlone(t *testing.T) {
	p := begin(t, 3)
	p.stash(1, 2)
	p.next()
	p.wantLists([]uint64{1, 2}, nil)
	p.unstash()
	p.stash(3)
	for range 4 {
		p.next()
	}
	p.wantLists([]uint64{3}, nil)
}

// P11.2: a message 0 is one.
func TestNextOfZero(t *testing.T) {
	p := begin(t, 1)
	p.stash(0)
	p.unstash()
	if id, ok := p.got.Next(); id != 0 || !ok {
		t.Errorf("Next = %d, %v, want 0, true", id, ok)
	}
	if id, ok := p.got.Next(); id != 0 || ok {
		t.Errorf("Next = %d, %v, want 0, false", id, ok)
	}
}

// P11.2: the front first, be either of them empty or not.
func TestClearTakesAll(t *testing.T) {
	for front := range 5 {
		for stashed := range 5 {
			p := begin(t, 4)
			p.stash(row(20, front)...)
			p.unstash()
			p.stash(row(10, stashed)...)
			if got, want := p.got.Clear(), append(row(20, front), row(10, stashed)...); !slices.Equal(got, want) {
				t.Errorf("Clear = %v, want %v", got, want)
			}
			p.want = plain{room: 4}
			p.look()
			p.clear()
			p.next()
			p.unstash()
			p.stash(1, 2, 3, 4, 5)
			p.unstash()
			p.next()
		}
	}
}

// P11.3 and rule 6: asking changes nothing.
func TestAskingChangesNothing(t *testing.T) {
	p := begin(t, 3)
	p.stash(9, 4)
	p.unstash()
	p.stash(3, 8)
	for range 3 {
		p.wantLists([]uint64{3, 8}, []uint64{9, 4})
	}
	p.stash(1, 2)
	p.next()
	p.unstash()
	p.wantLists(nil, []uint64{3, 8, 1, 4})
}

// spoil writes over a list, its spare room too.
func spoil(list []uint64) {
	for _, all := range [][]uint64{list[:cap(list)], append(list, 66)} {
		for i := range all {
			all[i] = 77
		}
	}
}

// Rule 5: an answer's spare room is its own, too.
func TestAnswersAreNewMemory(t *testing.T) {
	for n := range 20 {
		p := begin(t, 20)
		p.stash(row(100, n)...)
		p.unstash()
		p.stash(row(200, n)...)
		stashed, front := p.got.Stashed(), p.got.Front()
		spoil(p.got.Stashed())
		spoil(p.got.Front())
		p.look()
		if !slices.Equal(stashed, p.want.stash) || !slices.Equal(front, p.want.front) {
			t.Errorf("of %d messages: answers have become %v and %v", n, stashed, front)
		}
		spoil(stashed)
		spoil(front)
		p.next()
		p.unstash()
		spoil(p.got.Clear())
		p.want = plain{room: 20}
		p.look()
		p.stash(row(300, n)...)
		p.unstash()
		p.next()
	}
}

// Rule 5: an answer stays as it was, whatever comes behind it.
func TestAnswersStay(t *testing.T) {
	p := begin(t, 4)
	var got, want [][]uint64
	keep := func(answer []uint64) {
		got, want = append(got, answer), append(want, slices.Clone(answer))
	}
	for i := range uint64(60) {
		p.stash(2*i, 2*i+1)
		keep(p.got.Stashed())
		keep(p.got.Front())
		switch i % 8 {
		case 1, 2, 4, 5:
			p.unstash()
		case 3, 6:
			p.next()
		case 7:
			keep(p.got.Clear())
			p.want = plain{room: 4}
		}
		p.look()
	}
	for i := range got {
		if !slices.Equal(got[i], want[i]) {
			t.Errorf("answer %d has become %v, want %v", i, got[i], want[i])
		}
	}
}

// Rule 6
func TestLinesAreApart(t *testing.T) {
	a, b := begin(t, 2), begin(t, 2)
	both := func(do func(p *pair)) {
		do(a)
		b.look()
	}
	both(func(p *pair) { p.stash(1, 2, 3) })
	b.stash(4)
	a.look()
	both(func(p *pair) { p.unstash() })
	b.unstash()
	both(func(p *pair) { p.stash(5) })
	both(func(p *pair) { p.next() })
	both(func(p *pair) { p.clear() })
	b.wantLists(nil, []uint64{4})
	b.next()
	a.look()
}

// P11.1 to P11.3: many rows of calls, each the same at every run, against the plain line.
func TestLongRowsOfCalls(t *testing.T) {
	for seed := range int64(120) {
		draw := rand.New(rand.NewSource(seed))
		room := draw.Intn(70) - 3
		often := 1 + draw.Intn(30)
		p := begin(t, room)
		for range 300 {
			switch at := draw.Intn(often + 8); {
			case at < often:
				p.stash(draw.Uint64() % 90)
			case at < often+2:
				p.unstash()
			case at < often+7:
				p.next()
			case draw.Intn(4) == 0:
				p.clear()
			}
			if t.Failed() {
				t.Fatalf("seed %d, New(%d)", seed, room)
			}
		}
	}
}
