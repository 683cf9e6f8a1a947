package act_test

import (
	"math"
	"math/rand"
	"reflect"
	"slices"
	"strings"
	"testing"

	"troupe/act"
	"troupe/api"
	"troupe/parse"
)

// kindOf is the first kind of a text's program.
func kindOf(t *testing.T, text string) api.Kind {
	t.Helper()
	p, err := parse.Program(text)
	if err != nil {
		t.Fatalf("%s: %v", text, err)
	}
	return p.Kinds[0]
}

// ofRow is a kind whose state s has this one row, for x.
func ofRow(effects ...api.Effect) api.Kind {
	return api.Kind{Name: "k", States: []api.State{{Name: "s", Rows: []api.Row{{Tag: "x", Effects: effects}}}}}
}

func samePlan(a, b api.Plan) bool {
	return a.Stash == b.Stash && slices.Equal(a.Effects, b.Effects) && a.State == b.State && a.Stop == b.Stop && a.Fail == b.Fail
}

func sameRow(a, b api.Row) bool {
	return a.Tag == b.Tag && a.Only == b.Only && a.N == b.N && slices.Equal(a.Effects, b.Effects)
}

func wantPlan(t *testing.T, k api.Kind, state, tag string, n int, want api.Plan) {
	t.Helper()
	if got := act.Do(k, state, tag, n); !samePlan(got, want) {
		t.Errorf("Do in %q of %q %d = %+v, want %+v", state, tag, n, got, want)
	}
}

// wantRow holds the row that a message meets against the number of a state and of a row of it, from 1 on; none, if that is 0.
func wantRow(t *testing.T, k api.Kind, state, tag string, n, inState, at int) {
	t.Helper()
	var want api.Row
	if at > 0 {
		want = k.States[inState-1].Rows[at-1]
	}
	if got, ok := act.Row(k, state, tag, n); !sameRow(got, want) || ok != (at > 0) {
		t.Errorf("Row in %q of %q %d = %+v, %v, want %+v", state, tag, n, got, ok, want)
	}
}

func TestExamplesOfTheChapter(t *testing.T) {
	k := kindOf(t, "kind k { state s { on x 0 { stop ; } on x { send a x less ; become t ; } any { stash ; } } }")
	wantPlan(t, k, "s", "x", 0, api.Plan{Stop: true, State: "s"})
	wantPlan(t, k, "s", "x", 5, api.Plan{Effects: []api.Effect{{Do: api.DoSend, Ref: "a", Name: "x", Value: api.Const, N: 4}}, State: "t"})
	wantPlan(t, k, "s", "y", 1, api.Plan{Stash: true, State: "s"})
	for ref, want := range map[string]int{"b": 8, "c": 0, "sender": 2} {
		if got := act.Who(ref, 1, 2, 3, []int{7, 8}); got != want {
			t.Errorf("Who(%s) = %d, want %d", ref, got, want)
		}
	}
}

// P15.1: the first one of that name, whole.
func TestFind(t *testing.T) {
	p, err := parse.Program(`kind a { limit 1 in 2; case x stop; else resume; state s { on x 3 { send b y 7; stop; } any { } } state t { } }
		kind b { state s { } } kind a { state u { } } kind b { state v { } } kind ab { state w { } }`)
	if err != nil {
		t.Fatal(err)
	}
	for name, at := range map[string]int{"a": 0, "b": 1, "ab": 4} {
		k, ok := act.Find(p, name)
		if !ok || !parse.Same(api.Program{Kinds: []api.Kind{k}}, api.Program{Kinds: p.Kinds[at : at+1]}) {
			t.Errorf("Find(%s) = %+v, %v, want kind %d", name, k, ok, at)
		}
	}
	for _, name := range []string{"", "c", "A", "a ", " a", "abc", "s", "kind", "any", "\x00"} {
		if k, ok := act.Find(p, name); ok || !reflect.ValueOf(k).IsZero() {
			t.Errorf("Find(%q) = %+v, %v, want none", name, k, ok)
		}
	}
}

// P15.1: of no kinds there is none; a kind's name may be any text, none too.
func TestFindOfOddPrograms(t *testing.T) {
	for _, p := range []api.Program{{}, {Kinds: []api.Kind{}}} {
		for _, name := range []string{"", "a"} {
			if k, ok := act.Find(p, name); ok || !reflect.ValueOf(k).IsZero() {
				t.Errorf("Find(%q) of no kinds = %+v, %v", name, k, ok)
			}
		}
	}
	p := api.Program{Kinds: []api.Kind{{Name: "A b", Limit: -7}, {Limit: 3}, {Limit: 4}, {Name: "\xff", Limit: math.MaxInt}}}
	for name, limit := range map[string]int{"A b": -7, "": 3, "\xff": math.MaxInt} {
		if k, ok := act.Find(p, name); !ok || k.Limit != limit || k.Name != name {
			t.Errorf("Find(%q) = %+v, %v, want limit %d", name, k, ok, limit)
		}
	}
}

// P15.1: the first row that fits, be it the only one or not.
func TestRowIsTheFirstThatFits(t *testing.T) {
	k := kindOf(t, `kind k {
		state s { on x 0 { unstash; } on x 5 { stash; } on x { stop; } on x 7 { fail f; } on y 5 { hold a; } any { become s; } on z { cancel q; } }
		state t { any { } on x { stop; } }
		state u { on x 3 { } }
		state v { } }`)
	for n, at := range map[int]int{0: 1, 5: 2, 7: 3, 1: 3, -1: 3, 255: 3, math.MinInt: 3, math.MaxInt: 3} {
		wantRow(t, k, "s", "x", n, 1, at)
	}
	for n, at := range map[int]int{5: 5, 4: 6, 6: 6, 0: 6, -5: 6} {
		wantRow(t, k, "s", "y", n, 1, at)
	}
	for _, tag := range []string{"z", "q", "", "X", "x ", "any", "a b", strings.Repeat("x", 100)} {
		wantRow(t, k, "s", tag, 5, 1, 6)
	}
	wantRow(t, k, "t", "x", 0, 2, 1)
	wantRow(t, k, "u", "x", 3, 3, 1)
	wantRow(t, k, "u", "x", 2, 0, 0)
	wantRow(t, k, "u", "y", 3, 0, 0)
	wantRow(t, k, "u", "", 3, 0, 0)
	for _, state := range []string{"v", "w", "", "S", "k", "x", "s "} {
		wantRow(t, k, state, "x", 0, 0, 0)
	}
	wantRow(t, api.Kind{}, "", "", 0, 0, 0)
}

// P15.1: only the first state of a name counts, even if none of its rows fits.
func TestRowOfTheFirstStateOfAName(t *testing.T) {
	k := kindOf(t, "kind k { state s { on x { stop; } } state t { } state s { any { stash; } on x { hold b; } } state t { any { hold a; } } }")
	wantRow(t, k, "s", "x", 0, 1, 1)
	wantRow(t, k, "s", "y", 0, 0, 0)
	wantRow(t, k, "t", "x", 0, 0, 0)
	wantPlan(t, k, "s", "y", 0, api.Plan{State: "s"})
	wantPlan(t, k, "t", "y", 0, api.Plan{State: "t"})
}

// P15.1: what fits is told by the chapter's words alone, whether a row may be in a program or not.
func TestRowsThatAreNoPrograms(t *testing.T) {
	rows := []api.Row{{Tag: "x", N: 4}, {Only: true, N: 4}, {N: 9}}
	k := api.Kind{States: []api.State{{Rows: rows}, {Name: "s", Rows: rows[1:]}, {Name: "s", Rows: rows}}}
	wantRow(t, k, "", "x", 5, 1, 1)
	wantRow(t, k, "", "y", 5, 1, 2)
	wantRow(t, k, "", "", 4, 1, 2)
	wantRow(t, k, "s", "x", 5, 2, 1)
}

// P15.2
func TestNumber(t *testing.T) {
	for _, c := range []struct{ value, n, want int }{
		{api.Keep, 0, 0}, {api.Keep, 5, 5}, {api.Keep, -5, -5}, {api.Keep, math.MinInt, math.MinInt}, {api.Keep, math.MaxInt, math.MaxInt},
		{api.Less, 5, 4}, {api.Less, 2, 1}, {api.Less, 1, 0}, {api.Less, 0, 0}, {api.Less, -1, 0}, {api.Less, -5, 0}, {api.Less, 255, 254},
		{api.Less, math.MinInt, 0}, {api.Less, math.MaxInt, math.MaxInt - 1},
		{api.Const, 5, 77}, {api.Const, 0, 77}, {api.Const, -5, 77},
		{3, 5, 77}, {-1, 5, 77}, {math.MaxInt, 5, 77}, {math.MinInt, 5, 77},
	} {
		for do := -1; do < 15; do++ {
			e := api.Effect{Do: do, Value: c.value, N: 77, Ref: "a", Name: "x", Slot: "b", Delay: 9}
			if got := act.Number(e, c.n); got != c.want {
				t.Errorf("Number(%+v, %d) = %d, want %d", e, c.n, got, c.want)
			}
		}
	}
	for _, n := range someNumbers {
		if got := act.Number(api.Effect{Value: api.Const, N: n}, 5); got != n {
			t.Errorf("Number of %d = %d", n, got)
		}
	}
}

// P15.3: without a row the actor stays as it is, whatever its state is called.
func TestDoWithoutARow(t *testing.T) {
	k := kindOf(t, "kind k { state s { on x { stop; } on y 1 { fail z; } } state t { } }")
	wantPlan(t, k, "s", "z", 0, api.Plan{State: "s"})
	wantPlan(t, k, "s", "y", 2, api.Plan{State: "s"})
	wantPlan(t, k, "t", "x", 0, api.Plan{State: "t"})
	for _, state := range []string{"", "w", "A b", "\xff"} {
		wantPlan(t, k, state, "x", 0, api.Plan{State: state})
		wantPlan(t, api.Kind{}, state, "x", 0, api.Plan{State: state})
	}
}

// P15.3: a row without effects leaves all as it is.
func TestDoWithoutEffects(t *testing.T) {
	wantPlan(t, ofRow(), "s", "x", 3, api.Plan{State: "s"})
	wantPlan(t, ofRow([]api.Effect{}...), "s", "x", 3, api.Plan{State: "s"})
}

// P15.3: a stash that comes first puts the message aside, and nothing else is done; behind another effect it is nothing.
func TestDoOfAStash(t *testing.T) {
	stash, send, become := api.Effect{Do: api.DoStash}, api.Effect{Do: api.DoSend, Ref: "a", Name: "y", Value: api.Const}, api.Effect{Do: api.DoBecome, Name: "t"}
	stop, fail := api.Effect{Do: api.DoStop}, api.Effect{Do: api.DoFail, Name: "boom"}
	aside := api.Plan{Stash: true, State: "s"}
	for _, behind := range []api.Effect{stash, send, become, stop, fail, {}} {
		wantPlan(t, ofRow(stash, behind), "s", "x", 3, aside)
	}
	wantPlan(t, ofRow(stash), "s", "x", 3, aside)
	wantPlan(t, ofRow(api.Effect{Do: api.DoStash, Ref: "a", Slot: "b", Name: "t", Value: 2, N: 7, Delay: 8}, become), "s", "x", 3, aside)
	wantPlan(t, ofRow(send, stash), "s", "x", 3, api.Plan{Effects: []api.Effect{send}, State: "s"})
	wantPlan(t, ofRow(send, stash, stash, send, become, stash), "s", "x", 3, api.Plan{Effects: []api.Effect{send, send}, State: "t"})
	wantPlan(t, ofRow(become, stash), "s", "x", 3, api.Plan{State: "t"})
	wantPlan(t, ofRow(stop, stash), "s", "x", 3, api.Plan{State: "s", Stop: true})
	wantPlan(t, ofRow(fail, stash), "s", "x", 3, api.Plan{State: "s", Fail: "boom"})
	wantPlan(t, ofRow(api.Effect{}, stash, send), "s", "x", 3, api.Plan{Effects: []api.Effect{{}, send}, State: "s"})
}

// P15.3: what stands behind a stop or a fail isn't done any more, and what stands ahead of it is.
func TestDoEnds(t *testing.T) {
	watch, become, again := api.Effect{Do: api.DoWatch, Ref: "a"}, api.Effect{Do: api.DoBecome, Name: "t"}, api.Effect{Do: api.DoBecome, Name: "u"}
	stop, fail, boom := api.Effect{Do: api.DoStop}, api.Effect{Do: api.DoFail, Name: "f"}, api.Effect{Do: api.DoFail, Name: "boom"}
	for _, behind := range [][]api.Effect{nil, {watch}, {again}, {stop}, {boom}, {again, watch, boom, stop}} {
		of := func(ahead ...api.Effect) api.Kind { return ofRow(append(ahead, behind...)...) }
		wantPlan(t, of(stop), "s", "x", 0, api.Plan{State: "s", Stop: true})
		wantPlan(t, of(fail), "s", "x", 0, api.Plan{State: "s", Fail: "f"})
		wantPlan(t, of(watch, become, watch, stop), "s", "x", 0, api.Plan{Effects: []api.Effect{watch, watch}, State: "t", Stop: true})
		wantPlan(t, of(become, watch, fail), "s", "x", 0, api.Plan{Effects: []api.Effect{watch}, State: "t", Fail: "f"})
		wantPlan(t, of(watch, api.Effect{Do: api.DoFail}), "s", "x", 0, api.Plan{Effects: []api.Effect{watch}, State: "s"})
		wantPlan(t, of(api.Effect{Do: api.DoStop, Name: "n"}), "s", "x", 0, api.Plan{State: "s", Stop: true})
	}
}

// P15.3: of several becomes the last one counts, be its state there or not.
func TestDoOfBecomes(t *testing.T) {
	become := func(name string) api.Effect { return api.Effect{Do: api.DoBecome, Name: name} }
	wantPlan(t, ofRow(become("t")), "s", "x", 0, api.Plan{State: "t"})
	wantPlan(t, ofRow(become("t"), become("u")), "s", "x", 0, api.Plan{State: "u"})
	wantPlan(t, ofRow(become("t"), become("s")), "s", "x", 0, api.Plan{State: "s"})
	wantPlan(t, ofRow(become("A b")), "s", "x", 0, api.Plan{State: "A b"})
	wantPlan(t, ofRow(become("t"), become("")), "s", "x", 0, api.Plan{})
}

// P15.3: each other effect is done as it is; only a message's number is settled.
func TestDoOfEachEffect(t *testing.T) {
	for do := -2; do < 20; do++ {
		for value := -1; value < 4; value++ {
			for _, n := range someNumbers {
				e := api.Effect{Do: do, Ref: "r", Slot: "s", Name: "name", Value: value, N: 9, Delay: 12}
				want := api.Plan{State: "s", Effects: []api.Effect{e}}
				switch do {
				case api.DoSend, api.DoTimer:
					want.Effects[0].Value, want.Effects[0].N = api.Const, plainNumber(e, n)
				case api.DoBecome:
					want = api.Plan{State: "name"}
				case api.DoStash:
					want = api.Plan{State: "s", Stash: true}
				case api.DoStop:
					want = api.Plan{State: "s", Stop: true}
				case api.DoFail:
					want = api.Plan{State: "s", Fail: "name"}
				}
				wantPlan(t, ofRow(e), "s", "x", n, want)
			}
		}
	}
}

// P15.3: effects stay in their order, as often as they stand there.
func TestDoInOrder(t *testing.T) {
	k := kindOf(t, `kind k { state s { on x { timer 3 y less; send self y keep; spawn b k; send self y keep; unstash; become t;
		watch a; unwatch b; cancel y; hold d; timer 9 y 8; send sender z 0; fail f; } } }`)
	wantPlan(t, k, "s", "x", 5, api.Plan{State: "t", Fail: "f", Effects: []api.Effect{
		{Do: api.DoTimer, Delay: 3, Name: "y", Value: api.Const, N: 4},
		{Do: api.DoSend, Ref: "self", Name: "y", Value: api.Const, N: 5},
		{Do: api.DoSpawn, Slot: "b", Name: "k"},
		{Do: api.DoSend, Ref: "self", Name: "y", Value: api.Const, N: 5},
		{Do: api.DoUnstash},
		{Do: api.DoWatch, Ref: "a"},
		{Do: api.DoUnwatch, Ref: "b"},
		{Do: api.DoCancel, Name: "y"},
		{Do: api.DoHold, Slot: "d"},
		{Do: api.DoTimer, Delay: 9, Name: "y", Value: api.Const, N: 8},
		{Do: api.DoSend, Ref: "sender", Name: "z", Value: api.Const},
	}})
}

// notSlots are words that name no slot.
var notSlots = []string{"", "e", "z", "A", "D", "aa", "ab", "a ", " a", "0", "1", "self", "sender", "parent", "\x00", "a\x00", "é", "\xff", strings.Repeat("a", 1000)}

// P15.4: of all names of a byte, and of others, the four slots alone.
func TestSlot(t *testing.T) {
	for b := range 256 {
		name := string([]byte{byte(b)})
		want, is := b-'a', b >= 'a' && b <= 'd'
		if !is {
			want = 0
		}
		if at, ok := act.Slot(name); at != want || ok != is {
			t.Errorf("Slot(%q) = %d, %v, want %d, %v", name, at, ok, want, is)
		}
	}
	for _, name := range notSlots {
		if at, ok := act.Slot(name); at != 0 || ok {
			t.Errorf("Slot(%q) = %d, %v", name, at, ok)
		}
	}
}

func wantWho(t *testing.T, ref string, slots []int, want int) {
	t.Helper()
	if got := act.Who(ref, 11, 12, 13, slots); got != want {
		t.Errorf("Who(%q) with slots %v = %d, want %d", ref, slots, got, want)
	}
}

// P15.4: slots may be as many as they like.
func TestWho(t *testing.T) {
	many := []int{21, 22, 23, 24, 25, 26}
	for k := range len(many) + 1 {
		slots := many[:k:k]
		wantWho(t, "self", slots, 11)
		wantWho(t, "sender", slots, 12)
		wantWho(t, "parent", slots, 13)
		for at, name := range []string{"a", "b", "c", "d"} {
			if at < k {
				wantWho(t, name, slots, 21+at)
			} else {
				wantWho(t, name, slots, 0)
			}
		}
		for _, name := range notSlots {
			if name != "self" && name != "sender" && name != "parent" {
				wantWho(t, name, slots, 0)
			}
		}
	}
	wantWho(t, "a", nil, 0)
	wantWho(t, "self", nil, 11)
}

// P15.4: whoever they are.
func TestWhoOfAnyNumbers(t *testing.T) {
	for _, n := range append([]int{3}, someNumbers...) {
		for ref, got := range map[string]int{
			"self":   act.Who("self", n, 5, 6, []int{7}),
			"sender": act.Who("sender", 5, n, 6, []int{7}),
			"parent": act.Who("parent", 5, 6, n, []int{7}),
			"a":      act.Who("a", 5, 6, 7, []int{n}),
			"d":      act.Who("d", 5, 6, 7, []int{8, 9, 10, n}),
		} {
			if got != n {
				t.Errorf("Who(%s) = %d, want %d", ref, got, n)
			}
		}
	}
}

// P15.1 to P15.3: many kinds, right ones and others, each the same at every run, against the plain words.
func TestManyKinds(t *testing.T) {
	const kinds = 300
	var met, aside, stopped, failed, moved, done int
	for seed := range int64(kinds) {
		k := drawKind(rand.New(rand.NewSource(seed)))
		messages(func(state, tag string, n int) {
			want, is := plainRow(k, state, tag, n)
			if got, ok := act.Row(k, state, tag, n); ok != is || !sameRow(got, want) {
				t.Errorf("seed %d: Row in %q of %q %d = %+v, %v, want %+v, %v", seed, state, tag, n, got, ok, want, is)
			}
			plan := plainPlan(k, state, tag, n)
			wantPlan(t, k, state, tag, n, plan)
			for often, is := range map[*int]bool{&met: is, &aside: plan.Stash, &stopped: plan.Stop, &failed: plan.Fail != "", &moved: plan.State != state, &done: len(plan.Effects) > 1} {
				if is {
					*often++
				}
			}
		})
		if t.Failed() {
			t.Fatalf("seed %d", seed)
		}
	}
	for _, often := range []int{met, aside, stopped, failed, moved, done} {
		if often < kinds {
			t.Errorf("the draws tell too little: %v", []int{met, aside, stopped, failed, moved, done})
		}
	}
}

// mostOf tells how many rows of a state fit a message.
func mostOf(k api.Kind, state, tag string, n int) int {
	fitting := 0
	for _, s := range k.States {
		if s.Name == state {
			for _, r := range s.Rows {
				if fits(r, tag, n) {
					fitting++
				}
			}
			break
		}
	}
	return fitting
}

// P15.5: in another order of rows a message comes to the same, but where two rows fit it; there it may come to something else.
func TestOrderOfRows(t *testing.T) {
	same, other := 0, 0
	for seed := range int64(300) {
		draw := rand.New(rand.NewSource(seed))
		k := drawKind(draw)
		mixed, _ := act.Find(api.Program{Kinds: []api.Kind{k}}, k.Name)
		for _, s := range mixed.States {
			draw.Shuffle(len(s.Rows), func(i, j int) { s.Rows[i], s.Rows[j] = s.Rows[j], s.Rows[i] })
		}
		messages(func(state, tag string, n int) {
			plan := act.Do(k, state, tag, n)
			if mostOf(k, state, tag, n) < 2 {
				same++
				wantPlan(t, mixed, state, tag, n, plan)
			} else if !samePlan(act.Do(mixed, state, tag, n), plan) {
				other++
			}
		})
		if t.Failed() {
			t.Fatalf("seed %d", seed)
		}
	}
	if same < 1000 || other < 1000 {
		t.Errorf("%d and %d messages: the draws tell too little", same, other)
	}
}

// renamed is a kind whose states are named anew, by a name's place among some.
func renamed(k api.Kind, anew func(name string) string) api.Kind {
	k, _ = act.Find(api.Program{Kinds: []api.Kind{k}}, k.Name)
	for i := range k.States {
		k.States[i].Name = anew(k.States[i].Name)
		for _, row := range k.States[i].Rows {
			for j, e := range row.Effects {
				if e.Do == api.DoBecome {
					row.Effects[j].Name = anew(e.Name)
				}
			}
		}
	}
	return k
}

// P15.5: names of states mean nothing: all plans are the same, with states named anew.
func TestNamesOfStatesMeanNothing(t *testing.T) {
	names := []string{"", "s", "t", "u", "x", "nowhere", "stash", "self", "A b", "any", "send", "\xff"}
	for seed := range int64(150) {
		draw := rand.New(rand.NewSource(seed))
		k := drawKind(draw)
		places := draw.Perm(len(names))
		anew := func(name string) string { return names[places[slices.Index(names, name)]] }
		other := renamed(k, anew)
		messages(func(state, tag string, n int) {
			plan := act.Do(k, state, tag, n)
			plan.State = anew(plan.State)
			wantPlan(t, other, anew(state), tag, n, plan)
		})
		if t.Failed() {
			t.Fatalf("seed %d: named anew by %v", seed, places)
		}
	}
}
