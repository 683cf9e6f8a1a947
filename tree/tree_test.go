package tree_test

import (
	"math"
	"math/rand"
	"slices"
	"testing"

	"troupe/api"
	"troupe/tree"
)

func wantAdd(t *testing.T, x *tree.Tree, parent, id int, want api.Errno) {
	t.Helper()
	if e := x.Add(parent, id); e != want {
		t.Errorf("Add(%d, %d) = %d, want %d", parent, id, e, want)
	}
}

func wantCut(t *testing.T, x *tree.Tree, id int, want api.Errno) {
	t.Helper()
	if e := x.Cut(id); e != want {
		t.Errorf("Cut(%d) = %d, want %d", id, e, want)
	}
}

func wantIds(t *testing.T, call string, got []int, want ...int) {
	t.Helper()
	if !slices.Equal(got, want) {
		t.Errorf("%s = %v, want %v", call, got, want)
	}
}

func wantParent(t *testing.T, x *tree.Tree, id, want int, there bool) {
	t.Helper()
	if parent, ok := x.Parent(id); parent != want || ok != there {
		t.Errorf("Parent(%d) = %d, %v, want %d, %v", id, parent, ok, want, there)
	}
}

func TestExamplesOfTheChapter(t *testing.T) {
	x := tree.New()
	wantAdd(t, x, 0, 1, api.OK)
	wantAdd(t, x, 1, 2, api.OK)
	wantAdd(t, x, 1, 3, api.OK)
	wantAdd(t, x, 2, 4, api.OK)
	wantIds(t, "Kids(1)", x.Kids(1), 2, 3)
	wantIds(t, "Path(4)", x.Path(4), 1, 2, 4)
	wantIds(t, "Below(1)", x.Below(1), 4, 2, 3, 1)
	wantCut(t, x, 2, api.ErrBusy)
	wantCut(t, x, 4, api.OK)
	wantCut(t, x, 2, api.OK)
	wantAdd(t, x, 0, 9, api.ErrFull)
	wantAdd(t, x, 7, 9, api.ErrNone)
	wantAdd(t, x, 1, 3, api.ErrThere)
}

// P17.1, and P17.2 and P17.3 of no member.
func TestNewHasNoMembers(t *testing.T) {
	x := tree.New()
	if n := x.Len(); n != 0 {
		t.Errorf("Len = %d", n)
	}
	for _, id := range numbers {
		if x.Has(id) {
			t.Errorf("Has(%d)", id)
		}
		wantParent(t, x, id, 0, false)
		wantIds(t, "Kids", x.Kids(id))
		wantIds(t, "Path", x.Path(id))
		wantIds(t, "Below", x.Below(id))
		wantCut(t, x, id, api.ErrNone)
	}
	wantAdd(t, x, 1, 5, api.ErrNone)
	wantAdd(t, x, 0, 5, api.OK)
}

// P17.1: any number above 0 can be the root, and it alone is then a member.
func TestRootsAreNumbersAboveZero(t *testing.T) {
	for _, root := range numbers {
		p := begin(t, child{root, 0})
		if got := p.got.Len() == 1; got != (root > 0) {
			t.Errorf("Add(0, %d): Len is 1: %v", root, got)
		}
		p.look(numbers...)
	}
}

// P17.1: each of any numbers as the child of each, of a tree without members, one with a root, and a greater one; what is refused changes nothing (rule 3).
func TestAddOfAnyNumbers(t *testing.T) {
	for _, came := range [][]child{
		nil,
		{{1, 0}},
		{{math.MaxInt, 0}},
		{{1 << 32, 0}, {1, 1 << 32}, {256, 1}},
		{{2, 0}, {1<<32 + 2, 2}, {math.MaxInt32, 2}, {255, 1<<32 + 2}},
	} {
		for _, parent := range numbers {
			for _, id := range numbers {
				p := begin(t, came...)
				p.add(parent, id)
				p.look(numbers...)
				p.add(parent, id)
				p.look(numbers...)
			}
		}
	}
}

// P17.1 and rule 2: of several errors the first one that the chapter names.
func TestTheOrderOfAddsErrors(t *testing.T) {
	p := begin(t, child{1, 0}, child{2, 1})
	for _, c := range []struct {
		parent, id int
		want       api.Errno
	}{
		{0, 0, api.ErrArg}, {7, 0, api.ErrArg}, {0, -1, api.ErrArg}, {-1, -1, api.ErrArg}, {1, 0, api.ErrArg}, {0, math.MinInt, api.ErrArg},
		{0, 1, api.ErrThere}, {0, 2, api.ErrThere}, {7, 1, api.ErrThere}, {-1, 2, api.ErrThere}, {1, 1, api.ErrThere}, {2, 2, api.ErrThere}, {2, 1, api.ErrThere}, {1, 2, api.ErrThere},
		{0, 3, api.ErrFull}, {0, math.MaxInt, api.ErrFull},
		{3, 3, api.ErrNone}, {3, 4, api.ErrNone}, {-1, 3, api.ErrNone}, {-2, 3, api.ErrNone}, {math.MinInt, 3, api.ErrNone},
	} {
		wantAdd(t, p.got, c.parent, c.id, c.want)
		p.look(numbers...)
	}
	x := tree.New()
	wantAdd(t, x, 3, 0, api.ErrArg)
	wantAdd(t, x, 3, 3, api.ErrNone)
	wantAdd(t, x, 0, 0, api.ErrArg)
}

// P17.1 and P17.3: children stand in the order in which they came, not in that of their numbers.
func TestKidsStandInTheOrderInWhichTheyCame(t *testing.T) {
	x := tree.New()
	wantAdd(t, x, 0, 50, api.OK)
	var want []int
	for i := range 100 {
		id := 1000 + i*7919%1009
		wantAdd(t, x, 50, id, api.OK)
		want = append(want, id)
		wantIds(t, "Kids(50)", x.Kids(50), want...)
	}
	wantIds(t, "Below(50)", x.Below(50), append(want, 50)...)
	wantParent(t, x, want[40], 50, true)
}

// P17.1 and P17.3: who comes to one parent is nothing to the children of another one.
func TestFamiliesThatGrowByTurns(t *testing.T) {
	x := tree.New()
	wantAdd(t, x, 0, 1, api.OK)
	wantAdd(t, x, 1, 2, api.OK)
	wantAdd(t, x, 1, 3, api.OK)
	for i := range 4 {
		wantAdd(t, x, 3, 30+i, api.OK)
		wantAdd(t, x, 2, 20+i, api.OK)
	}
	wantIds(t, "Kids(1)", x.Kids(1), 2, 3)
	wantIds(t, "Kids(2)", x.Kids(2), 20, 21, 22, 23)
	wantIds(t, "Kids(3)", x.Kids(3), 30, 31, 32, 33)
	wantIds(t, "Below(1)", x.Below(1), 20, 21, 22, 23, 2, 30, 31, 32, 33, 3, 1)
	wantIds(t, "Path(32)", x.Path(32), 1, 3, 32)
}

// P17.2 and rule 3: who has children, or is no member, isn't cut, and nothing changes.
func TestRefusedCutsChangeNothing(t *testing.T) {
	p := begin(t, child{1, 0}, child{2, 1}, child{3, 1}, child{4, 2}, child{5, 4})
	for range 2 {
		for _, id := range []int{1, 2, 4} {
			wantCut(t, p.got, id, api.ErrBusy)
			p.look(numbers...)
		}
		for _, id := range numbers {
			if !p.want.has(id) {
				wantCut(t, p.got, id, api.ErrNone)
				p.look(numbers...)
			}
		}
	}
}

// P17.2: the root is cut as all others are, and then another one can come.
func TestAnotherRoot(t *testing.T) {
	p := begin(t, child{4, 0}, child{5, 4})
	p.cut(4)
	p.cut(5)
	p.cut(4)
	p.look(numbers...)
	p.cut(4)
	p.add(4, 6)
	p.add(5, 4)
	p.look(4, 5, 6)
	for _, root := range []int{5, 4, 4, 9, math.MaxInt} {
		p.add(0, root)
		p.add(0, 3)
		p.add(root, 3)
		p.look(3, 4, 5)
		p.cut(root)
		p.cut(3)
		p.cut(root)
		p.look(3, 4, 5, root)
	}
}

// P17.2 and P17.3: who was cut and comes again is the last child, wherever it stood, and has no children.
func TestWhoComesAgain(t *testing.T) {
	for _, again := range []int{2, 3, 4} {
		for _, parent := range []int{1, 2, 3, 4} {
			p := begin(t, child{1, 0}, child{2, 1}, child{3, 1}, child{4, 1}, child{5, again})
			p.cut(again)
			p.cut(5)
			p.cut(again)
			p.cut(again)
			p.look(again, 5)
			p.add(parent, again)
			p.look(again, 5)
			p.add(again, 5)
			p.add(1, 6)
			p.look(again, 5)
		}
	}
}

// P17.1 to P17.3: of a row of children some are cut, in every order, and others come.
func TestCutsOfARow(t *testing.T) {
	for n := 1; n <= 5; n++ {
		for order := range pow(n, n) {
			p := begin(t, child{9, 0})
			for id := range n {
				p.add(9, id+1)
			}
			for range n {
				p.cut(order%n + 1)
				order /= n
				p.look(1, 2, 3, 4, 5)
			}
			p.add(9, 30)
			p.add(9, 20)
			p.look(1, 2, 3, 4, 5)
		}
		if t.Failed() {
			t.FailNow()
		}
	}
}

func pow(n, times int) int {
	all := 1
	for range times {
		all *= n
	}
	return all
}

// P17.3: what a tree tells of each of its members, of every tree of up to seven.
func TestAllSmallTrees(t *testing.T) {
	for n := 1; n < 8; n++ {
		shapes(n, func(came []child) { begin(t, came...).look(0, n+1) })
	}
}

// P17.1 to P17.3: all rows of four calls, from each tree of up to two members on.
func TestAllShortRowsOfCalls(t *testing.T) {
	calls := []func(p *pair){}
	for id := 1; id <= 3; id++ {
		calls = append(calls, func(p *pair) { p.cut(id) })
		for parent := range 4 {
			calls = append(calls, func(p *pair) { p.add(parent, id) })
		}
	}
	for _, came := range [][]child{nil, {{1, 0}}, {{1, 0}, {2, 1}}} {
		for row := range pow(len(calls), 4) {
			p := begin(t, came...)
			for range 4 {
				calls[row%len(calls)](p)
				row /= len(calls)
			}
			p.look(0, 1, 2, 3)
			if t.Failed() {
				t.FailNow()
			}
		}
	}
}

// wantAllCut holds P17.4: all below id can be cut in the order of Below, and what isn't below it stays as it was.
func (p *pair) wantAllCut(id int) {
	p.t.Helper()
	for _, other := range p.got.Below(id) {
		want := p.want.cut(other)
		if e := p.got.Cut(other); e != api.OK || want != api.OK {
			p.t.Errorf("of %v: Cut(%d) = %d, want 0", p.want.came, other, e)
		}
	}
	p.look(id)
}

// P17.4: of each member of every tree of up to six.
func TestAllBelowCanBeCut(t *testing.T) {
	for n := 1; n <= 6; n++ {
		shapes(n, func(came []child) {
			for id := 1; id <= n; id++ {
				p := begin(t, came...)
				p.wantAllCut(id)
				p.wantAllCut(1)
				if p.got.Len() != 0 {
					t.Errorf("of %v: %d are left, want none", came, p.got.Len())
				}
			}
		})
	}
}

// P17.3 and P17.4: of great trees that were drawn: Parent and Path go up to the root, and all can be cut.
func TestGreatTrees(t *testing.T) {
	for seed := range int64(40) {
		draw := rand.New(rand.NewSource(seed))
		p := drawn(t, draw, 2+draw.Intn(90), 1+draw.Intn(60))
		p.look()
		root := p.want.came[0].id
		for _, c := range slices.Clone(p.want.came) {
			p.wantPath(c.id, root)
		}
		for range 3 {
			p.wantAllCut(p.want.came[draw.Intn(len(p.want.came))].id)
			if len(p.want.came) == 0 {
				p.add(0, 1)
			}
		}
		p.wantAllCut(p.want.came[0].id)
		if t.Failed() {
			t.Fatalf("seed %d", seed)
		}
	}
}

// wantPath goes up by Parent and holds each step against the path.
func (p *pair) wantPath(id, root int) {
	p.t.Helper()
	path := p.got.Path(id)
	for at := len(path) - 1; at >= 0; at-- {
		if path[at] != id {
			p.t.Errorf("of %v: a path %v, though %d is above", p.want.came, path, id)
			return
		}
		id, _ = p.got.Parent(id)
	}
	if id != 0 || path[0] != root {
		p.t.Errorf("of %v: a path %v, and Parent of the root %d", p.want.came, path, id)
	}
}

// P17.3 and P17.4: as deep as parts may be nested.
func TestDeepTrees(t *testing.T) {
	const deep = 1 << 16
	x := tree.New()
	for id := 1; id <= deep; id++ {
		wantAdd(t, x, id-1, id, api.OK)
	}
	path, below := x.Path(deep), x.Below(1)
	if x.Len() != deep || len(path) != deep || len(below) != deep || len(x.Below(deep)) != 1 || len(x.Path(1)) != 1 {
		t.Fatalf("%d members, a path of %d, %d below the root; %d below the last one", x.Len(), len(path), len(below), len(x.Below(deep)))
	}
	for i, id := range below {
		if id != deep-i || path[deep-1-i] != id {
			t.Fatalf("at %d: %d, and from the end of the path %d", i, id, path[deep-1-i])
		}
		wantParent(t, x, id, id-1, true)
		wantCut(t, x, id, api.OK)
	}
	if x.Len() != 0 {
		t.Errorf("%d are left", x.Len())
	}
}

// P17.2 and P17.4: many children are cut, the first ones first, the last ones first, or in a drawn order.
func TestWideTrees(t *testing.T) {
	const wide = 1 << 17
	kids := make([]int, wide)
	for i := range kids {
		kids[i] = i + 2
	}
	backwards, mixed := slices.Clone(kids), slices.Clone(kids)
	slices.Reverse(backwards)
	rand.New(rand.NewSource(1)).Shuffle(wide, func(i, j int) { mixed[i], mixed[j] = mixed[j], mixed[i] })
	for _, order := range [][]int{kids, backwards, mixed} {
		x := tree.New()
		wantAdd(t, x, 0, 1, api.OK)
		for _, kid := range kids {
			wantAdd(t, x, 1, kid, api.OK)
		}
		if below := x.Below(1); !slices.Equal(x.Kids(1), kids) || len(below) != wide+1 || !slices.Equal(below[:wide], kids) {
			t.Fatalf("%d children aren't told in their order", wide)
		}
		for _, kid := range order {
			wantCut(t, x, kid, api.OK)
		}
		wantIds(t, "Kids(1)", x.Kids(1))
		wantCut(t, x, 1, api.OK)
		if t.Failed() {
			t.FailNow()
		}
	}
}

// spoil writes over a list, its spare room too.
func spoil(list []int) {
	for _, all := range [][]int{list[:cap(list)], append(list, 66)} {
		for i := range all {
			all[i] = 77
		}
	}
}

// Rule 5: an answer shares nothing, its spare room neither, with another one or with what is kept.
func TestAnswersAreNewMemory(t *testing.T) {
	for seed := range int64(20) {
		draw := rand.New(rand.NewSource(seed))
		p := drawn(t, draw, 1+draw.Intn(20), 1+draw.Intn(8))
		for _, c := range slices.Clone(p.want.came) {
			for _, call := range []func(int) []int{p.got.Kids, p.got.Path, p.got.Below} {
				spoilt, other := call(c.id), call(c.id)
				want := slices.Clone(other)
				spoil(spoilt)
				wantIds(t, "an answer, another one being written over,", other, want...)
			}
			p.look()
		}
		p.add(p.want.came[0].id, 100)
		p.look(77, 66)
	}
}

// Rule 5: an answer stays as it was, whatever comes behind it.
func TestAnswersStay(t *testing.T) {
	p := begin(t, child{1, 0}, child{2, 1}, child{3, 2})
	kids, path, below := p.got.Kids(1), p.got.Path(3), p.got.Below(1)
	p.add(1, 4)
	p.add(3, 5)
	p.cut(5)
	p.cut(3)
	p.cut(2)
	p.add(1, 6)
	wantIds(t, "Kids(1)", kids, 2)
	wantIds(t, "Path(3)", path, 1, 2, 3)
	wantIds(t, "Below(1)", below, 3, 2, 1)
}

// Rule 6
func TestTreesAreApart(t *testing.T) {
	a, b := begin(t), begin(t)
	a.add(0, 1)
	b.look(1)
	b.add(0, 2)
	b.add(2, 1)
	a.add(1, 2)
	a.look(1, 2)
	b.look(1, 2)
	a.cut(2)
	a.cut(1)
	b.look(1, 2)
	b.cut(1)
	a.look(1, 2)
	b.add(2, 3)
	b.look(1, 2, 3)
}

// P17.1 to P17.3: many rows of calls, each the same at every run, against the plain tree.
func TestLongRowsOfCalls(t *testing.T) {
	for seed := range int64(150) {
		draw := rand.New(rand.NewSource(seed))
		ids, cuts := 2+draw.Intn(24), 1+draw.Intn(6)
		p := begin(t)
		for turn := range 300 {
			if draw.Intn(10) < cuts {
				p.cut(draw.Intn(ids+2) - 1)
			} else {
				p.add(draw.Intn(ids+2)-1, draw.Intn(ids+2)-1)
			}
			if turn%5 == 0 {
				p.look(-1, 0, 1, ids+1)
			}
		}
		if t.Failed() {
			t.Fatalf("seed %d", seed)
		}
	}
}
