package lot_test

import (
	"math"
	"slices"
	"testing"

	"troupe/api"
	"troupe/lot"
)

// asMany are the numbers of workers that can be, and how many orders the others have then.
var asMany = []struct{ n, ways int }{{1, 1}, {2, 1}, {3, 2}, {4, 6}, {5, 24}, {6, 120}, {7, 720}, {8, 5040}}

// notThere are numbers whose others aren't there: too few or too many of them, or nobody among them.
var notThere = []struct{ n, self int }{
	{0, 0}, {0, -1}, {-1, 0}, {-1, -1}, {-1, -2}, {math.MinInt, 0}, {math.MinInt, math.MinInt},
	{9, 0}, {9, 8}, {10, 3}, {math.MaxInt, 0}, {math.MaxInt, math.MaxInt - 1},
	{1, 1}, {1, -1}, {1, 5}, {2, 2}, {2, -1}, {3, 3}, {4, 4}, {4, 5}, {8, 8}, {8, -1}, {8, 9},
	{8, math.MaxInt}, {8, math.MinInt}, {1, math.MaxInt}, {1, math.MinInt},
}

func wantOrder(t *testing.T, draw uint64, n, self int, want ...int) {
	t.Helper()
	if got := lot.Order(draw, n, self); !slices.Equal(got, want) {
		t.Errorf("Order(%d, %d, %d) = %v, want %v", draw, n, self, got, want)
	}
}

func wantRank(t *testing.T, order []int, n, self int, want uint64) {
	t.Helper()
	if got, ok := lot.Rank(order, n, self); got != want || !ok {
		t.Errorf("Rank(%v, %d, %d) = %d, %t, want %d, true", order, n, self, got, ok, want)
	}
}

func wantNoRank(t *testing.T, order []int, n, self int) {
	t.Helper()
	if got, ok := lot.Rank(order, n, self); got != 0 || ok {
		t.Errorf("Rank(%v, %d, %d) = %d, %t, want 0, false", order, n, self, got, ok)
	}
}

// everyOne visits each number among each that can be.
func everyOne(visit func(n, self, ways int)) {
	for _, c := range asMany {
		for self := range c.n {
			visit(c.n, self, c.ways)
		}
	}
}

// plain is an order as the chapter's words have it: who is left is marked, and the place is counted through those who are.
func plain(draw uint64, n, self int) []int {
	var gone [api.MaxWorkers]bool
	gone[self] = true
	var order []int
	for k := uint64(n - 1); k > 0; k-- {
		place := draw % k
		for one := range n {
			if gone[one] {
				continue
			}
			if place == 0 {
				order, gone[one] = append(order, one), true
				break
			}
			place--
		}
		draw /= k
	}
	return order
}

func TestExamplesOfTheChapter(t *testing.T) {
	wantOrder(t, 0, 4, 1, 0, 2, 3)
	wantOrder(t, 1, 4, 1, 2, 0, 3)
	wantOrder(t, 5, 4, 1, 3, 2, 0)
	if got := lot.Ways(4); got != 6 {
		t.Errorf("Ways(4) = %d, want 6", got)
	}
	if got := lot.Ways(9); got != 0 {
		t.Errorf("Ways(9) = %d, want 0", got)
	}
	wantRank(t, []int{2, 0, 3}, 4, 1, 1)
	wantNoRank(t, []int{2, 0}, 4, 1)
}

// P7.1: each place is taken modulo how many are left, and the draw is divided by as many.
func TestOrderIsOfTheDraw(t *testing.T) {
	wantOrder(t, 2, 4, 1, 3, 0, 2)
	wantOrder(t, 3, 4, 1, 0, 3, 2)
	wantOrder(t, 4, 4, 1, 2, 3, 0)
	wantOrder(t, 0, 2, 0, 1)
	wantOrder(t, 7, 2, 1, 0)
	wantOrder(t, 1, 3, 0, 2, 1)
	wantOrder(t, 1, 3, 1, 2, 0)
	wantOrder(t, 1, 3, 2, 1, 0)
	// 2 + 7 (1 + 6 (4 + 5 (0 + 4 (2 + 3 (1)))))
	wantOrder(t, 2+7*(1+6*(4+5*(0+4*(2+3*1)))), 8, 5, 2, 1, 7, 0, 6, 4, 3)
}

// P7.1
func TestOrderWithNoneLeftToDraw(t *testing.T) {
	everyOne(func(n, self, ways int) {
		var others, backwards []int
		for one := range n {
			if one != self {
				others = append(others, one)
				backwards = append([]int{one}, backwards...)
			}
		}
		wantOrder(t, 0, n, self, others...)
		wantOrder(t, uint64(ways-1), n, self, backwards...)
	})
}

// P7.1: others of the only one are there, and none.
func TestOrderOfTheOnlyOne(t *testing.T) {
	for _, draw := range []uint64{0, 1, 2, 9, math.MaxUint64} {
		wantOrder(t, draw, 1, 0)
	}
}

// P7.1
func TestOrderOfOthersThatAreNotThere(t *testing.T) {
	for _, c := range notThere {
		for _, draw := range []uint64{0, 1, 5, 5040, math.MaxUint64} {
			wantOrder(t, draw, c.n, c.self)
		}
	}
}

// P7.1: small draws and the greatest ones, which are no less whole numbers of 64 bits.
func TestOrderIsAsTheWordsHaveIt(t *testing.T) {
	everyOne(func(n, self, ways int) {
		for i := range uint64(3*ways + 5) {
			for _, draw := range []uint64{i, math.MaxUint64 - i, 1<<63 + i, 1<<63 - 1 - i, 1<<32 + i, i * 0x9e3779b97f4a7c15} {
				wantOrder(t, draw, n, self, plain(draw, n, self)...)
			}
		}
	})
}

// P7.2
func TestWays(t *testing.T) {
	for _, c := range asMany {
		if got := lot.Ways(c.n); got != c.ways {
			t.Errorf("Ways(%d) = %d, want %d", c.n, got, c.ways)
		}
	}
	for _, n := range []int{0, -1, -2, -8, math.MinInt32, math.MinInt, 9, 10, 21, 64, 1000, math.MaxInt32, math.MaxInt} {
		if got := lot.Ways(n); got != 0 {
			t.Errorf("Ways(%d) = %d, want 0", n, got)
		}
	}
}

// P7.2
func TestRankOfTheOnlyOne(t *testing.T) {
	wantRank(t, nil, 1, 0, 0)
	wantRank(t, []int{}, 1, 0, 0)
	wantNoRank(t, []int{0}, 1, 0)
	wantNoRank(t, []int{1}, 1, 0)
}

// P7.2
func TestRankOfWhatIsNoOrder(t *testing.T) {
	for _, order := range [][]int{
		nil, {}, {0}, {2, 0}, {0, 2}, // too short
		{0, 2, 3, 1}, {2, 0, 3, 3}, {0, 2, 3, 4}, {0, 2, 3, 0}, // too long
		{0, 0, 0}, {2, 0, 2}, {2, 2, 3}, {3, 2, 3}, // somebody twice
		{2, 1, 3}, {1, 0, 2}, {3, 2, 1}, {1, 1, 1}, // oneself
		{4, 2, 3}, {0, 2, 4}, {-1, 2, 3}, {3, 2, -1}, {0, 2, math.MaxInt}, {3, 0, math.MinInt}, {1 << 32, 2, 3}, // nobody
	} {
		wantNoRank(t, order, 4, 1)
	}
	wantNoRank(t, make([]int, 100000), 8, 3)
	wantNoRank(t, []int{0, 1, 2, 3, 4, 5, 6, 7}, 8, 3)
	wantNoRank(t, []int{7, 6, 5, 4, 2, 1, 1}, 8, 3)
}

// P7.2: where the others aren't there is no order, not even one of none.
func TestRankOfOthersThatAreNotThere(t *testing.T) {
	for _, c := range notThere {
		for k := range 10 {
			rising := make([]int, k)
			for i := range rising {
				rising[i] = i
			}
			wantNoRank(t, rising, c.n, c.self)
			for i := range rising {
				rising[i] = i + 1
			}
			wantNoRank(t, rising, c.n, c.self)
		}
		wantNoRank(t, nil, c.n, c.self)
	}
}

// lists visits each list of up to k numbers from -1 to n.
func lists(k, n int, list []int, visit func([]int)) {
	visit(list)
	if k == 0 {
		return
	}
	for one := -1; one <= n; one++ {
		lists(k-1, n, append(slices.Clone(list), one), visit)
	}
}

// P7.2: of each list, whatever stands in it, the first draw that comes to it.
func TestRankIsTheLeastDraw(t *testing.T) {
	for _, c := range asMany[:5] {
		for self := range c.n {
			var orders [][]int
			for draw := range uint64(2 * c.ways) {
				orders = append(orders, plain(draw, c.n, self))
			}
			lists(c.n, c.n, nil, func(list []int) {
				least := slices.IndexFunc(orders, func(order []int) bool { return slices.Equal(order, list) })
				if least >= 0 {
					wantRank(t, list, c.n, self, uint64(least))
				} else {
					wantNoRank(t, list, c.n, self)
				}
			})
		}
	}
}

// P7.3: there and back, each draw by itself, and no two orders alike.
func TestEachOrderComesOfOneDraw(t *testing.T) {
	everyOne(func(n, self, ways int) {
		met := map[[api.MaxWorkers]int]uint64{}
		for draw := range uint64(ways) {
			order := lot.Order(draw, n, self)
			wantRank(t, order, n, self, draw)
			var key [api.MaxWorkers]int
			copy(key[:], order)
			if other, ok := met[key]; ok {
				t.Errorf("Order(%d, %d, %d) and Order(%d, %d, %d) are %v", other, n, self, draw, n, self, order)
			}
			met[key] = draw
			slices.Sort(order)
			wantOrder(t, 0, n, self, order...)
		}
		if len(met) != lot.Ways(n) {
			t.Errorf("%d orders of %d among %d, and Ways = %d", len(met), self, n, lot.Ways(n))
		}
	})
}

// P7.3
func TestDrawsThatAreWaysApart(t *testing.T) {
	everyOne(func(n, self, ways int) {
		apart := uint64(lot.Ways(n))
		for i := range uint64(50) {
			draw := i * 101 % apart
			order := lot.Order(draw, n, self)
			most := (math.MaxUint64 - draw) / apart
			for _, times := range []uint64{1, 2, 3, 1000, 1 << 40, most - 1, most} {
				wantOrder(t, draw+times*apart, n, self, order...)
				wantRank(t, lot.Order(draw+times*apart, n, self), n, self, draw)
			}
		}
	})
}

// Rule 5
func TestOrdersAreNewMemory(t *testing.T) {
	first, second := lot.Order(1, 4, 1), lot.Order(1, 4, 1)
	first[0], first[1], first[2] = 7, 7, 7
	for i := range first[:cap(first)] {
		first[:cap(first)][i] = 8
	}
	_ = append(first, 9)
	_ = append(second[:1], 9)
	wantOrder(t, 1, 4, 1, 2, 0, 3)
	if !slices.Equal(second, []int{2, 9, 3}) {
		t.Errorf("an answer has become %v", second)
	}
}

// Rule 5
func TestRankLeavesWhatItIsGiven(t *testing.T) {
	for _, long := range [][]int{{2, 0, 3, 5, 6}, {2, 2, 3, 5, 6}, {9, 0, 3, 5, 6}} {
		was := slices.Clone(long)
		for k := range len(long) + 1 {
			lot.Rank(long[:k], 4, 1)
			if !slices.Equal(long, was) {
				t.Fatalf("Rank of the first %d of %v left %v", k, was, long)
			}
		}
	}
}

// Rule 6: nothing is kept from one call to the next.
func TestCallsAreApart(t *testing.T) {
	for range 3 {
		wantOrder(t, 5, 4, 1, 3, 2, 0)
		wantOrder(t, 0, 9, 1)
		wantRank(t, []int{3, 2, 0}, 4, 1, 5)
		wantNoRank(t, []int{3, 2, 2}, 4, 1)
		wantOrder(t, 4319, 8, 7, plain(4319, 8, 7)...)
	}
}
