package dead_test

import (
	"math"
	"math/rand"
	"slices"
	"testing"

	"troupe/api"
	"troupe/dead"
)

// The chapter's numbers, and some that are none of them.
var (
	reasons   = []int{1, 2, 3, 4, 5}
	noReasons = []int{0, -1, -5, 6, 7, 64, 256, 257, 1<<32 + 1, 1<<32 + 5, math.MaxInt, math.MinInt, math.MinInt + 1}
)

func wantPut(t *testing.T, s *dead.Sink, l api.Letter, want api.Errno) {
	t.Helper()
	if e := s.Put(l.Id, l.To, l.Why); e != want {
		t.Errorf("Put(%d, %d, %d) = %d, want %d", l.Id, l.To, l.Why, e, want)
	}
}

func putAll(t *testing.T, s *dead.Sink, letters []api.Letter) {
	t.Helper()
	for _, l := range letters {
		wantPut(t, s, l, api.OK)
	}
}

func wantRecent(t *testing.T, s *dead.Sink, want ...api.Letter) {
	t.Helper()
	if got := s.Recent(); !slices.Equal(got, want) {
		t.Errorf("Recent = %v, want %v", got, want)
	}
}

// wantCounts holds the counts of the reasons from 1 on, and of what is none, against these.
func wantCounts(t *testing.T, s *dead.Sink, want [5]int) {
	t.Helper()
	total := 0
	for i, n := range want {
		total += n
		if got := s.Count(i + 1); got != n {
			t.Errorf("Count(%d) = %d, want %d", i+1, got, n)
		}
	}
	if got := s.Total(); got != total {
		t.Errorf("Total = %d, want %d", got, total)
	}
	for _, why := range noReasons {
		if got := s.Count(why); got != 0 {
			t.Errorf("Count(%d) = %d, want 0", why, got)
		}
	}
}

// row makes n letters no two of which are alike, of all reasons in turn; ids fall.
func row(n int) []api.Letter {
	letters := make([]api.Letter, n)
	for i := range letters {
		letters[i] = api.Letter{Id: uint64(10*n - i), To: i % 7, Why: reasons[i%5]}
	}
	return letters
}

// countsOf counts letters by their reasons.
func countsOf(letters []api.Letter) (counts [5]int) {
	for _, l := range letters {
		counts[l.Why-1]++
	}
	return counts
}

// last answers the last ones of these letters, most of them or all there are.
func last(letters []api.Letter, most int) []api.Letter {
	return letters[max(len(letters)-most, 0):]
}

// kept tells how many letters New(recent) keeps.
func kept(recent int) int {
	switch {
	case recent < 0:
		return 0
	case recent > 64:
		return 64
	}
	return recent
}

func TestExamplesOfTheChapter(t *testing.T) {
	s := dead.New(2)
	wantPut(t, s, api.Letter{Id: 7, To: 1, Why: 1}, api.OK)
	wantPut(t, s, api.Letter{Id: 8, To: 1, Why: 2}, api.OK)
	wantPut(t, s, api.Letter{Id: 9, To: 0, Why: 1}, api.OK)
	wantPut(t, s, api.Letter{Id: 5, To: 1, Why: 6}, api.ErrArg)
	wantCounts(t, s, [5]int{2, 1})
	wantRecent(t, s, api.Letter{Id: 8, To: 1, Why: 2}, api.Letter{Id: 9, To: 0, Why: 1})
}

// Chapter 9's Words
func TestReasonsAreThoseOfTheChapter(t *testing.T) {
	got := []int{api.WhyOverflow, api.WhyClosed, api.WhyNobody, api.WhyCancelled, api.WhyUnwanted}
	if !slices.Equal(got, reasons) {
		t.Errorf("the reasons are %v, want %v", got, reasons)
	}
}

// P9.1, P9.2
func TestNewHasNoLetters(t *testing.T) {
	for _, recent := range []int{math.MinInt, -1, 0, 1, 64, math.MaxInt} {
		s := dead.New(recent)
		wantCounts(t, s, [5]int{})
		wantRecent(t, s)
	}
}

// P9.1: how many are kept, held behind each Put, till there were more than twice as many.
func TestNewKeepsSoMany(t *testing.T) {
	for _, recent := range []int{math.MinInt, math.MinInt32, -64, -2, -1, 0, 1, 2, 3, 5, 31, 62, 63, 64, 65, 66, 128, 1 << 32, 1<<32 + 1, math.MaxInt} {
		s := dead.New(recent)
		letters := row(2*api.MaxRecent + 9)
		for i, l := range letters {
			wantPut(t, s, l, api.OK)
			wantRecent(t, s, last(letters[:i+1], kept(recent))...)
		}
		if got, want := len(s.Recent()), kept(recent); got != want {
			t.Errorf("New(%d) keeps %d, want %d", recent, got, want)
		}
	}
}

// P9.1
func TestPutTakesEachReason(t *testing.T) {
	for _, why := range reasons {
		s := dead.New(4)
		l := api.Letter{Id: 3, To: 2, Why: why}
		wantPut(t, s, l, api.OK)
		wantRecent(t, s, l)
		want := [5]int{}
		want[why-1] = 1
		wantCounts(t, s, want)
	}
}

// P9.1 and rule 3: what is refused is neither counted nor kept, and puts nobody out.
func TestPutRefusesWhatIsNoReason(t *testing.T) {
	for _, recent := range []int{-1, 0, 1, 5, 64} {
		for _, had := range []int{0, 1, 5, 64, 70} {
			s, letters := dead.New(recent), row(had)
			putAll(t, s, letters)
			for _, why := range noReasons {
				wantPut(t, s, api.Letter{Id: 5, To: 1, Why: why}, api.ErrArg)
				wantPut(t, s, api.Letter{Why: why}, api.ErrArg)
			}
			wantCounts(t, s, countsOf(letters))
			wantRecent(t, s, last(letters, kept(recent))...)
		}
	}
}

// P9.1: an id and whom it is to are any numbers, and are kept as they are.
func TestPutTakesAnyNumbers(t *testing.T) {
	s := dead.New(64)
	var letters []api.Letter
	for _, id := range []uint64{0, 1, 5, 1<<32 + 1, 1 << 63, math.MaxUint64} {
		for _, to := range []int{0, 1, -1, 16, 17, 1<<32 + 1, math.MinInt, math.MaxInt} {
			letters = append(letters, api.Letter{Id: id, To: to, Why: 3})
		}
	}
	putAll(t, s, letters)
	wantRecent(t, s, letters...)
	wantCounts(t, s, [5]int{0, 0, 48})
}

// P9.1, P9.2: a letter that was put before is one more, whatever of it is the same.
func TestPutOfTheSameCountsAgain(t *testing.T) {
	s, l := dead.New(3), api.Letter{Id: 7, To: 1, Why: 4}
	other := api.Letter{Id: 7, To: 1, Why: 5}
	putAll(t, s, []api.Letter{l, l})
	wantRecent(t, s, l, l)
	wantCounts(t, s, [5]int{0, 0, 0, 2})
	putAll(t, s, []api.Letter{other, l})
	wantRecent(t, s, l, other, l)
	wantCounts(t, s, [5]int{0, 0, 0, 3, 1})
}

// P9.2: letters are counted, be they kept or not.
func TestCountsGoOnBeyondWhatIsKept(t *testing.T) {
	for _, recent := range []int{-7, 0, 1, 2, 64, 100} {
		s := dead.New(recent)
		want := [5]int{}
		for i, why := range reasons {
			for range 10 + 70*i {
				wantPut(t, s, api.Letter{Id: 1, To: 1, Why: why}, api.OK)
				want[i]++
			}
			wantCounts(t, s, want)
		}
		wantCounts(t, s, [5]int{10, 80, 150, 220, 290})
	}
}

// P9.2: which letters are kept hangs on their order alone, not on their reasons.
func TestRecentIsOfAllReasons(t *testing.T) {
	s := dead.New(3)
	rare := api.Letter{Id: 100, To: 1, Why: 5}
	wantPut(t, s, rare, api.OK)
	often := []api.Letter{{Id: 9, To: 1, Why: 1}, {Id: 8, To: 2, Why: 1}, {Id: 7, To: 3, Why: 1}}
	putAll(t, s, often[:2])
	wantRecent(t, s, rare, often[0], often[1])
	wantPut(t, s, often[2], api.OK)
	wantRecent(t, s, often...)
	wantPut(t, s, rare, api.OK)
	wantRecent(t, s, often[1], often[2], rare)
	wantCounts(t, s, [5]int{3, 0, 0, 0, 2})
}

// P9.2 and rule 6: asking changes nothing.
func TestAskingChangesNothing(t *testing.T) {
	s, letters := dead.New(4), row(9)
	putAll(t, s, letters)
	for range 3 {
		wantCounts(t, s, countsOf(letters))
		wantRecent(t, s, letters[5:]...)
	}
	more := api.Letter{Id: 1000, To: 5, Why: 2}
	wantPut(t, s, more, api.OK)
	wantRecent(t, s, append(slices.Clone(letters[6:]), more)...)
}

// Rule 5: an answer's spare room is its own, too.
func TestAnswersAreNewMemory(t *testing.T) {
	for _, had := range []int{0, 1, 3, 4, 5, 9, 100} {
		s, letters := dead.New(4), row(had)
		putAll(t, s, letters)
		first, second := s.Recent(), s.Recent()
		for _, list := range [][]api.Letter{first[:cap(first)], append(first, api.Letter{Id: 66})} {
			for i := range list {
				list[i] = api.Letter{Id: 77, To: 77, Why: 77}
			}
		}
		wantRecent(t, s, last(letters, 4)...)
		if !slices.Equal(second, last(letters, 4)) {
			t.Errorf("of %d letters: an answer has become %v", had, second)
		}
		next := api.Letter{Id: 5, To: 5, Why: 5}
		wantPut(t, s, next, api.OK)
		wantRecent(t, s, last(append(slices.Clone(letters), next), 4)...)
	}
}

// Rule 5: an answer stays as it was, whatever comes behind it.
func TestAnswersStay(t *testing.T) {
	s, letters := dead.New(4), row(40)
	var answers [][]api.Letter
	for _, l := range letters {
		wantPut(t, s, l, api.OK)
		answers = append(answers, s.Recent())
	}
	for i, got := range answers {
		if want := last(letters[:i+1], 4); !slices.Equal(got, want) {
			t.Errorf("the answer behind letter %d has become %v, want %v", i, got, want)
		}
	}
}

// Rule 6
func TestSinksAreApart(t *testing.T) {
	a, b := dead.New(2), dead.New(2)
	one, two := api.Letter{Id: 1, To: 1, Why: 1}, api.Letter{Id: 2, To: 2, Why: 2}
	wantPut(t, a, one, api.OK)
	wantCounts(t, b, [5]int{})
	wantRecent(t, b)
	wantPut(t, b, two, api.OK)
	wantCounts(t, a, [5]int{1})
	wantRecent(t, a, one)
	wantCounts(t, b, [5]int{0, 1})
	wantRecent(t, b, two)
}

// P9.1, P9.2: many rows of calls, each the same at every run, against a list of all letters that were put.
func TestLongRowsOfCalls(t *testing.T) {
	for seed := range int64(60) {
		draw := rand.New(rand.NewSource(seed))
		recent := draw.Intn(72) - 3
		s := dead.New(recent)
		var letters []api.Letter
		for range 300 {
			l := api.Letter{Id: draw.Uint64() % 90, To: draw.Intn(20) - 2, Why: draw.Intn(8) - 1}
			if slices.Contains(reasons, l.Why) {
				wantPut(t, s, l, api.OK)
				letters = append(letters, l)
			} else {
				wantPut(t, s, l, api.ErrArg)
			}
			wantCounts(t, s, countsOf(letters))
			wantRecent(t, s, last(letters, kept(recent))...)
			if t.Failed() {
				t.Fatalf("seed %d, New(%d)", seed, recent)
			}
		}
	}
}
