package area

import (
	"math"
	"math/rand"
	"slices"
	"testing"

	"troupe/api"
)

func wantTake(t *testing.T, a *Area, k, want int) {
	t.Helper()
	if base, e := a.Take(k); base != want || e != api.OK {
		t.Errorf("Take(%d) = %d, %d, want %d, OK", k, base, e, want)
	}
}

func wantNoTake(t *testing.T, a *Area, k int, want api.Errno) {
	t.Helper()
	if base, e := a.Take(k); base != 0 || e != want {
		t.Errorf("Take(%d) = %d, %d, want 0, %d", k, base, e, want)
	}
}

func wantGive(t *testing.T, a *Area, base int, want api.Errno) {
	t.Helper()
	if e := a.Give(base); e != want {
		t.Errorf("Give(%d) = %d, want %d", base, e, want)
	}
}

func wantHeld(t *testing.T, a *Area, free int, regions ...api.Region) {
	t.Helper()
	if got := a.Free(); got != free {
		t.Errorf("Free = %d, want %d", got, free)
	}
	if got := a.Regions(); !slices.Equal(got, regions) {
		t.Errorf("Regions = %v, want %v", got, regions)
	}
}

// row makes an area of n cells of which regions of these lengths are taken, one behind the other.
func row(t *testing.T, n int, lens ...int) *Area {
	t.Helper()
	a, base := New(n), 0
	for _, k := range lens {
		wantTake(t, a, k, base)
		base += k
	}
	return a
}

func TestExamplesOfTheChapter(t *testing.T) {
	a := New(10)
	wantTake(t, a, 3, 0)
	wantTake(t, a, 4, 3)
	wantNoTake(t, a, 4, api.ErrFull)
	wantTake(t, a, 3, 7)
	wantGive(t, a, 3, api.OK)
	wantTake(t, a, 2, 3)
	wantTake(t, a, 2, 5)
	wantGive(t, a, 4, api.ErrNone)
	wantHeld(t, a, 0, api.Region{Base: 0, Len: 3}, api.Region{Base: 3, Len: 2}, api.Region{Base: 5, Len: 2}, api.Region{Base: 7, Len: 3})
}

// P2.1
func TestNewHasSoManyFreeCells(t *testing.T) {
	for _, c := range []struct{ n, want int }{
		{math.MinInt, 0}, {-3, 0}, {-1, 0}, {0, 0}, {1, 1}, {2, 2}, {100, 100},
		{api.MaxCells - 1, api.MaxCells - 1}, {api.MaxCells, api.MaxCells},
		{api.MaxCells + 1, api.MaxCells}, {1 << 40, api.MaxCells}, {math.MaxInt, api.MaxCells},
	} {
		a := New(c.n)
		wantHeld(t, a, c.want)
		wantNoTake(t, a, c.want+1, api.ErrFull)
		if c.want > 0 {
			wantTake(t, a, c.want, 0)
			wantHeld(t, a, 0, api.Region{Base: 0, Len: c.want})
			wantNoTake(t, a, 1, api.ErrFull)
		}
	}
}

// P2.2
func TestTakeOfNoCells(t *testing.T) {
	for _, a := range []*Area{New(0), New(5), row(t, 5, 2, 3)} {
		free, regions := a.Free(), a.Regions()
		for _, k := range []int{0, -1, -5, math.MinInt32, math.MinInt} {
			wantNoTake(t, a, k, api.ErrArg)
		}
		wantHeld(t, a, free, regions...)
	}
}

// P2.2
func TestTakeOfMoreThanStandInARow(t *testing.T) {
	none, whole := New(0), New(5)
	gaps := row(t, 10, 3, 1, 2, 1)
	wantGive(t, gaps, 0, api.OK)
	wantGive(t, gaps, 4, api.OK)
	for _, c := range []struct {
		a *Area
		k int
	}{{none, 1}, {whole, 6}, {row(t, 5, 5), 1}, {row(t, 5, 2), 4}, {gaps, 4}, {gaps, 8}} {
		free, regions := c.a.Free(), c.a.Regions()
		for _, k := range []int{c.k, api.MaxCells, api.MaxCells + 1, math.MaxInt32, math.MaxInt - 1, math.MaxInt} {
			wantNoTake(t, c.a, k, api.ErrFull)
		}
		wantHeld(t, c.a, free, regions...)
	}
	// Eight cells are free, and three in a row are the most.
	wantHeld(t, gaps, 8, api.Region{Base: 3, Len: 1}, api.Region{Base: 6, Len: 1})
	wantTake(t, gaps, 3, 0)
}

// P2.2
func TestTakeIsWhereThereIsRoomFirst(t *testing.T) {
	// Gaps of 3 at 0, 2 at 4, 4 at 7, and 5 at 12, the last ones.
	gaps := func() *Area {
		a := row(t, 17, 3, 1, 2, 1, 4, 1)
		for _, base := range []int{0, 4, 7} {
			wantGive(t, a, base, api.OK)
		}
		return a
	}
	for _, c := range []struct{ k, want int }{{1, 0}, {2, 0}, {3, 0}, {4, 7}, {5, 12}} {
		a := gaps()
		wantTake(t, a, c.k, c.want)
		if regions := a.Regions(); !slices.Contains(regions, api.Region{Base: c.want, Len: c.k}) {
			t.Errorf("behind Take(%d): Regions = %v", c.k, regions)
		}
	}
	a := gaps()
	wantTake(t, a, 2, 0)
	wantTake(t, a, 2, 4)
	wantTake(t, a, 2, 7)
	wantTake(t, a, 1, 2)
	wantTake(t, a, 2, 9)
	wantTake(t, a, 1, 12)
	wantTake(t, a, 4, 13)
	wantNoTake(t, a, 1, api.ErrFull)
}

// P2.2
func TestGivenNeighboursAreOneRow(t *testing.T) {
	for _, order := range [][]int{{2, 4, 6}, {6, 4, 2}, {2, 6, 4}, {4, 2, 6}} {
		a := row(t, 10, 2, 2, 2, 2, 2)
		for _, base := range order {
			wantGive(t, a, base, api.OK)
		}
		wantNoTake(t, a, 7, api.ErrFull)
		wantTake(t, a, 6, 2)
		wantHeld(t, a, 0, api.Region{Base: 0, Len: 2}, api.Region{Base: 2, Len: 6}, api.Region{Base: 8, Len: 2})
	}
	a := row(t, 10, 2, 2)
	wantGive(t, a, 2, api.OK)
	wantTake(t, a, 8, 2)
	wantGive(t, a, 0, api.OK)
	wantGive(t, a, 2, api.OK)
	wantTake(t, a, 10, 0)
}

// P2.2
func TestTakenNeighboursStayApart(t *testing.T) {
	a := row(t, 4, 1, 2, 1)
	wantHeld(t, a, 0, api.Region{Base: 0, Len: 1}, api.Region{Base: 1, Len: 2}, api.Region{Base: 3, Len: 1})
	wantGive(t, a, 1, api.OK)
	wantTake(t, a, 1, 1)
	wantTake(t, a, 1, 2)
	wantHeld(t, a, 0, api.Region{Base: 0, Len: 1}, api.Region{Base: 1, Len: 1}, api.Region{Base: 2, Len: 1}, api.Region{Base: 3, Len: 1})
}

// P2.2
func TestGiveWhereNoRegionBegins(t *testing.T) {
	a := row(t, 10, 3, 2, 4)
	wantGive(t, a, 3, api.OK)
	// Inside a region, its last cell, free cells, one given already, cells that there aren't.
	for _, base := range []int{1, 2, 3, 4, 6, 8, 9, 10, 11, -1, -3, api.MaxCells, math.MaxInt, math.MinInt} {
		wantGive(t, a, base, api.ErrNone)
	}
	wantHeld(t, a, 3, api.Region{Base: 0, Len: 3}, api.Region{Base: 5, Len: 4})
	for _, empty := range []*Area{New(0), New(-1), New(6)} {
		for _, base := range []int{0, 1, -1, 6} {
			wantGive(t, empty, base, api.ErrNone)
		}
	}
}

// P2.2
func TestGiveFreesItsRegionAlone(t *testing.T) {
	for i, base := range []int{0, 3, 5} {
		a := row(t, 9, 3, 2, 4)
		regions := a.Regions()
		wantGive(t, a, base, api.OK)
		wantHeld(t, a, regions[i].Len, slices.Delete(slices.Clone(regions), i, i+1)...)
		wantGive(t, a, base, api.ErrNone)
		wantTake(t, a, regions[i].Len, base)
		wantHeld(t, a, 0, regions...)
	}
}

// P2.2
func TestGreatestArea(t *testing.T) {
	a := New(api.MaxCells + 1)
	wantTake(t, a, api.MaxCells-1, 0)
	wantNoTake(t, a, 2, api.ErrFull)
	wantTake(t, a, 1, api.MaxCells-1)
	wantNoTake(t, a, 1, api.ErrFull)
	wantGive(t, a, api.MaxCells, api.ErrNone)
	wantGive(t, a, api.MaxCells-1, api.OK)
	wantGive(t, a, 0, api.OK)
	wantHeld(t, a, api.MaxCells)
	wantTake(t, a, api.MaxCells, 0)
}

// P2.2, P2.3
func TestManyRegions(t *testing.T) {
	const n = 4000
	a, want := New(2*n), make([]api.Region, n)
	for i := range n {
		wantTake(t, a, 2, 2*i)
		want[i] = api.Region{Base: 2 * i, Len: 2}
	}
	wantHeld(t, a, 0, want...)
	for i := 0; i < n; i += 2 {
		wantGive(t, a, 2*i, api.OK)
	}
	wantNoTake(t, a, 3, api.ErrFull)
	for i := 0; i < n; i += 2 {
		wantTake(t, a, 2, 2*i)
	}
	wantHeld(t, a, 0, want...)
}

// P2.3
func TestFreeCountsWhatIsInNoRegion(t *testing.T) {
	a := New(10)
	wantHeld(t, a, 10)
	wantTake(t, a, 4, 0)
	wantHeld(t, a, 6, api.Region{Base: 0, Len: 4})
	wantTake(t, a, 5, 4)
	wantHeld(t, a, 1, api.Region{Base: 0, Len: 4}, api.Region{Base: 4, Len: 5})
	wantGive(t, a, 0, api.OK)
	wantHeld(t, a, 5, api.Region{Base: 4, Len: 5})
	wantGive(t, a, 4, api.OK)
	wantHeld(t, a, 10)
}

// P2.3
func TestRegionsStandByTheirFirstCells(t *testing.T) {
	a := row(t, 12, 4, 4, 4)
	wantGive(t, a, 4, api.OK)
	wantGive(t, a, 0, api.OK)
	wantTake(t, a, 5, 0)
	wantTake(t, a, 1, 5)
	wantHeld(t, a, 2, api.Region{Base: 0, Len: 5}, api.Region{Base: 5, Len: 1}, api.Region{Base: 8, Len: 4})
	wantGive(t, a, 0, api.OK)
	wantTake(t, a, 2, 0)
	wantHeld(t, a, 5, api.Region{Base: 0, Len: 2}, api.Region{Base: 5, Len: 1}, api.Region{Base: 8, Len: 4})
}

// P2.3 and rule 5
func TestRegionsAreNewMemory(t *testing.T) {
	a := row(t, 9, 2, 3)
	was := []api.Region{{Base: 0, Len: 2}, {Base: 2, Len: 3}}
	first, second := a.Regions(), a.Regions()
	first[0], first[1] = api.Region{Base: 7, Len: 7}, api.Region{}
	_ = append(first[:0], api.Region{Base: 8, Len: 8})
	_ = append(second, api.Region{Base: 9, Len: 9})
	wantHeld(t, a, 4, was...)
	wantTake(t, a, 1, 5)
	wantGive(t, a, 0, api.OK)
	if !slices.Equal(second, was) {
		t.Errorf("an answer has become %v", second)
	}
	wantHeld(t, a, 5, api.Region{Base: 2, Len: 3}, api.Region{Base: 5, Len: 1})
}

// Rule 6
func TestAreasAreApart(t *testing.T) {
	a, b := New(6), New(6)
	wantTake(t, a, 4, 0)
	wantHeld(t, b, 6)
	wantTake(t, b, 4, 0)
	wantHeld(t, b, a.Free(), a.Regions()...)
	wantGive(t, a, 0, api.OK)
	wantHeld(t, b, 2, api.Region{Base: 0, Len: 4})
}

// plain is an area as the chapter's words have it: of each cell, the region it is in (its first cell and one), 0 of a free one.
type plain []int

func (p plain) take(k int) (int, api.Errno) {
	if k < 1 {
		return 0, api.ErrArg
	}
	for base := range p {
		if k > len(p)-base {
			break
		}
		if slices.Max(p[base:base+k]) == 0 {
			for i := base; i < base+k; i++ {
				p[i] = base + 1
			}
			return base, api.OK
		}
	}
	return 0, api.ErrFull
}

func (p plain) give(base int) api.Errno {
	if !slices.Contains(p, base+1) || base < 0 {
		return api.ErrNone
	}
	for i := range p {
		if p[i] == base+1 {
			p[i] = 0
		}
	}
	return api.OK
}

func (p plain) held() (free int, regions []api.Region) {
	for i, first := range p {
		switch first {
		case 0:
			free++
		case i + 1:
			regions = append(regions, api.Region{Base: i, Len: 1})
		default:
			regions[len(regions)-1].Len++
		}
	}
	return free, regions
}

// P2.2, P2.3: many rows of calls, each the same at every run.
func TestLongRowsOfCalls(t *testing.T) {
	for seed := range int64(60) {
		draw := rand.New(rand.NewSource(seed))
		n := draw.Intn(40)
		a, p := New(n), make(plain, n)
		for range 300 {
			if draw.Intn(2) == 0 {
				base := draw.Intn(n+3) - 1
				wantGive(t, a, base, p.give(base))
			} else {
				k := draw.Intn(n/4+4) - 1
				base, e := p.take(k)
				if got, ge := a.Take(k); got != base || ge != e {
					t.Errorf("Take(%d) = %d, %d, want %d, %d", k, got, ge, base, e)
				}
			}
			free, regions := p.held()
			wantHeld(t, a, free, regions...)
			if t.Failed() {
				t.Fatalf("seed %d, %d cells", seed, n)
			}
		}
	}
}
