package check_test

import (
	"errors"
	"math"
	"math/rand"
	"reflect"
	"slices"
	"strconv"
	"strings"
	"testing"

	"troupe/api"
	"troupe/check"
	"troupe/lex"
	"troupe/parse"
	"troupe/trial"
)

// want holds what is told of a program against a number and a place; OK, if nothing is wrong.
func want(t *testing.T, how string, p api.Program, code api.Errno, where ...int) {
	t.Helper()
	err := check.Program(p)
	if got, at := check.Code(err), check.Where(err); got != code || !slices.Equal(at, where) {
		t.Errorf("%s: error %d in %v, want %d in %v", trial.Short(how), got, at, code, where)
	}
	if code == api.OK {
		if err != nil {
			t.Errorf("%s: %v, want no error", trial.Short(how), err)
		}
		return
	}
	var bad *check.Bad
	if !errors.As(err, &bad) || bad.Code != code || !slices.Equal(bad.Where, where) || !errors.Is(err, code) {
		t.Errorf("%s: %v, want one that is error %d in %v", trial.Short(how), err, code, where)
	}
}

// wantOf is want of a text's program, and of what is told of it plainly.
func wantOf(t *testing.T, text string, code api.Errno, where ...int) {
	t.Helper()
	p, err := parse.Program(text)
	if err != nil {
		t.Fatalf("%s: %v", trial.Short(text), err)
	}
	want(t, text, p, code, where...)
	wantPlainly(t, text, p)
}

// wantPlainly holds what is told of a program against what is told of it plainly.
func wantPlainly(t *testing.T, how string, p api.Program) {
	t.Helper()
	code, where := plainly(p)
	want(t, how, p, code, where...)
}

// ofRow is a program with one row; its kinds are a and b, the row's states s and t.
func ofRow(row api.Row) api.Program {
	return ofKind(api.Kind{Name: "a", Within: 1, States: []api.State{{Name: "s", Rows: []api.Row{row}}, {Name: "t"}}})
}

// ofKind is a program of a kind, and of one that is right.
func ofKind(k api.Kind) api.Program {
	return api.Program{Kinds: []api.Kind{k, {Name: "b", Within: 1, States: []api.State{{Name: "u"}}}}}
}

func ofEffects(effects ...api.Effect) api.Program {
	return ofRow(api.Row{Tag: "x", Effects: effects})
}

func ofCases(cases ...api.Case) api.Program {
	return ofKind(api.Kind{Name: "a", Within: 1, Cases: cases, States: []api.State{{Name: "s"}}})
}

func TestExamplesOfTheChapter(t *testing.T) {
	wantOf(t, "", api.ErrCount)
	wantOf(t, "kind a { }", api.ErrCount, 1)
	wantOf(t, "kind a { state s { on x { become t ; } } }", api.ErrMissing, 1, 1, 1, 1)
	wantOf(t, "kind a { state s { on x { stash ; stop ; } } }", api.ErrAlone, 1, 1, 1)
	wantOf(t, "kind a { state s { on x { stop ; unstash ; } } }", api.ErrLast, 1, 1, 1, 1)
	wantOf(t, "kind a { state s { on x { stop; stash; } } }", api.ErrAlone, 1, 1, 1)
}

// numbers are those around an interval's edges, and far ones.
func numbers(least, most int) []int {
	return []int{least - 1, least, least + 1, most - 1, most, most + 1, -1, 0, math.MinInt, math.MaxInt}
}

// P14.1: each number of a program, up to its edges and behind them.
func TestNumbers(t *testing.T) {
	state := []api.State{{Name: "s"}}
	for _, c := range []struct {
		how         string
		least, most int
		of          func(n int) api.Program
		where       []int
	}{
		{"limit", 0, 100, func(n int) api.Program { return ofKind(api.Kind{Name: "a", Limit: n, Within: 1, States: state}) }, []int{1}},
		{"within", 1, 4095, func(n int) api.Program { return ofKind(api.Kind{Name: "a", Within: n, States: state}) }, []int{1}},
		{"do of a case", 1, 4, func(n int) api.Program { return ofCases(api.Case{Reason: "x", Do: n}) }, []int{1}},
		{"do of a last case", 1, 4, func(n int) api.Program { return ofCases(api.Case{Reason: "x", Do: 1}, api.Case{Do: n}) }, []int{1}},
		{"n of a row", 0, 255, func(n int) api.Program { return ofRow(api.Row{Tag: "x", Only: true, N: n}) }, []int{1, 1, 1}},
		{"n of a row without one", 0, 0, func(n int) api.Program { return ofRow(api.Row{Tag: "x", N: n}) }, []int{1, 1, 1}},
		{"n of any", 0, 0, func(n int) api.Program { return ofRow(api.Row{N: n}) }, []int{1, 1, 1}},
		{"delay", 1, 4095, func(n int) api.Program {
			return ofEffects(api.Effect{Do: api.DoTimer, Delay: n, Name: "y"})
		}, []int{1, 1, 1, 1}},
		{"value", 0, 2, func(n int) api.Program {
			return ofEffects(api.Effect{Do: api.DoSend, Ref: "self", Name: "y", Value: n})
		}, []int{1, 1, 1, 1}},
		{"n of a message", 0, 255, func(n int) api.Program {
			return ofEffects(api.Effect{Do: api.DoSend, Ref: "self", Name: "y", Value: api.Const, N: n})
		}, []int{1, 1, 1, 1}},
		{"n of one that is kept", 0, 0, func(n int) api.Program {
			return ofEffects(api.Effect{Do: api.DoTimer, Delay: 1, Name: "y", N: n})
		}, []int{1, 1, 1, 1}},
		{"n of one less", 0, 0, func(n int) api.Program {
			return ofEffects(api.Effect{Do: api.DoTimer, Delay: 1, Name: "y", Value: api.Less, N: n})
		}, []int{1, 1, 1, 1}},
	} {
		for _, n := range numbers(c.least, c.most) {
			how := c.how + " " + strconv.Itoa(n)
			if n >= c.least && n <= c.most {
				want(t, how, c.of(n), api.OK)
			} else {
				want(t, how, c.of(n), api.ErrRange, c.where...)
			}
		}
	}
}

// P14.1: each name of a program; only a case's reason may be empty, and a row's tag where no number is asked for.
func TestNames(t *testing.T) {
	wrong := []string{"A", "_a", "7", "7a", "a b", "a ", " a", "a-b", "{", ";", "a;", "#", "é", "\x00", "\xff", strings.Repeat("a", 17), strings.Repeat("a", 1<<20)}
	for _, c := range []struct {
		how   string
		empty bool
		of    func(name string) api.Program
		where []int
	}{
		{"kind", false, func(n string) api.Program {
			return ofKind(api.Kind{Name: n, Within: 1, States: []api.State{{Name: "s"}}})
		}, []int{1}},
		{"state", false, func(n string) api.Program {
			return ofKind(api.Kind{Name: "a", Within: 1, States: []api.State{{Name: n}}})
		}, []int{1, 1}},
		{"reason", true, func(n string) api.Program { return ofCases(api.Case{Reason: n, Do: 1}) }, []int{1}},
		{"last reason", true, func(n string) api.Program {
			return ofCases(api.Case{Reason: "x", Do: 1}, api.Case{Reason: n, Do: 1})
		}, []int{1}},
		{"tag", true, func(n string) api.Program { return ofRow(api.Row{Tag: n}) }, []int{1, 1, 1}},
		{"tag with a number", false, func(n string) api.Program { return ofRow(api.Row{Tag: n, Only: true}) }, []int{1, 1, 1}},
		{"message", false, func(n string) api.Program {
			return ofEffects(api.Effect{Do: api.DoSend, Ref: "self", Name: n})
		}, []int{1, 1, 1, 1}},
		{"timer", false, func(n string) api.Program {
			return ofEffects(api.Effect{Do: api.DoTimer, Delay: 1, Name: n})
		}, []int{1, 1, 1, 1}},
		{"cancel", false, func(n string) api.Program { return ofEffects(api.Effect{Do: api.DoCancel, Name: n}) }, []int{1, 1, 1, 1}},
		{"fail", false, func(n string) api.Program { return ofEffects(api.Effect{Do: api.DoFail, Name: n}) }, []int{1, 1, 1, 1}},
	} {
		for _, name := range []string{"z", "z9_", "else", "any", "self", strings.Repeat("z", 16)} {
			want(t, c.how+" "+name, c.of(name), api.OK)
		}
		for _, name := range wrong {
			want(t, c.how+" "+name, c.of(name), api.ErrRange, c.where...)
		}
		if c.empty {
			want(t, c.how+" empty", c.of(""), api.OK)
		} else {
			want(t, c.how+" empty", c.of(""), api.ErrRange, c.where...)
		}
	}
}

// P14.1: references and slots, and what else may stand elsewhere.
func TestReferencesAndSlots(t *testing.T) {
	for _, name := range strings.Fields("a b c d self sender parent e aa me child root nobody z A") {
		slot := len(name) == 1 && strings.Contains("abcd", name)
		for _, e := range []api.Effect{{Do: api.DoSend, Ref: name, Name: "y"}, {Do: api.DoWatch, Ref: name}, {Do: api.DoUnwatch, Ref: name}} {
			if slot || name == "self" || name == "sender" || name == "parent" {
				want(t, name, ofEffects(e), api.OK)
			} else {
				want(t, name, ofEffects(e), api.ErrRange, 1, 1, 1, 1)
			}
		}
		for _, e := range []api.Effect{{Do: api.DoSpawn, Slot: name, Name: "b"}, {Do: api.DoHold, Slot: name}} {
			if slot {
				want(t, name, ofEffects(e), api.OK)
			} else {
				want(t, name, ofEffects(e), api.ErrRange, 1, 1, 1, 1)
			}
		}
	}
}

// P14.1: how many there may be of each thing.
func TestCounts(t *testing.T) {
	kinds := func(n int) (p api.Program) {
		for i := range n {
			p.Kinds = append(p.Kinds, api.Kind{Name: "k" + strconv.Itoa(i), Within: 1, States: []api.State{{Name: "s"}}})
		}
		return p
	}
	cases := func(n int) api.Program {
		var all []api.Case
		for i := range n {
			all = append(all, api.Case{Reason: "r" + strconv.Itoa(i), Do: 1})
		}
		return ofCases(all...)
	}
	states := func(n int) api.Program {
		k := api.Kind{Name: "a", Within: 1}
		for i := range n {
			k.States = append(k.States, api.State{Name: "s" + strconv.Itoa(i)})
		}
		return ofKind(k)
	}
	rows := func(n int) api.Program {
		s := api.State{Name: "s"}
		for i := range n {
			s.Rows = append(s.Rows, api.Row{Tag: "x" + strconv.Itoa(i)})
		}
		return ofKind(api.Kind{Name: "a", Within: 1, States: []api.State{s}})
	}
	effects := func(n int) api.Program { return ofEffects(slices.Repeat([]api.Effect{{Do: api.DoUnstash}}, n)...) }
	for _, c := range []struct {
		how         string
		least, most int
		of          func(n int) api.Program
		where       []int
	}{
		{"kinds", 1, 8, kinds, nil},
		{"cases", 0, 8, cases, []int{1}},
		{"states", 1, 8, states, []int{1}},
		{"rows", 0, 16, rows, []int{1, 1}},
		{"effects", 0, 8, effects, []int{1, 1, 1}},
	} {
		for _, n := range []int{0, 1, 2, 7, 8, 9, 15, 16, 17, 18, 100, 1 << 18} {
			how := strconv.Itoa(n) + " " + c.how
			if n >= c.least && n <= c.most {
				want(t, how, c.of(n), api.OK)
			} else {
				want(t, how, c.of(n), api.ErrCount, c.where...)
			}
		}
	}
}

// P14.1: what may not be there twice, and what may.
func TestTwice(t *testing.T) {
	wantOf(t, "kind a { state s { } } kind b { state s { } } kind a { state s { } }", api.ErrTwice, 3)
	wantOf(t, "kind a { state s { } } kind b { state s { } } kind b { state s { } } kind a { state s { } }", api.ErrTwice, 3)
	wantOf(t, "kind a { case x stop; case y stop; case x resume; state s { } }", api.ErrTwice, 1)
	wantOf(t, "kind a { else stop; else stop; state s { } }", api.ErrTwice, 1)
	wantOf(t, "kind a { else stop; case else stop; state s { } }", api.OK)
	wantOf(t, "kind a { state s { } state t { } state s { } }", api.ErrTwice, 1, 3)
	wantOf(t, "kind a { state s { } } kind b { case a stop; state s { } state a { } state b { } }", api.OK)
	wantOf(t, "kind a { state s { any { } any { } } }", api.ErrTwice, 1, 1, 2)
	wantOf(t, "kind a { state s { on x { } any { } on x 0 { } on x 1 { } on y { } on y 0 { } on any { } } }", api.OK)
	wantOf(t, "kind a { state s { on x 1 { } on y 1 { } on x 2 { } on x 1 { stop; } } }", api.ErrTwice, 1, 1, 4)
	wantOf(t, "kind a { state s { on x 0 { } on x 0 { } } }", api.ErrTwice, 1, 1, 2)
	wantOf(t, "kind a { state s { on x { } } state t { on x { } on x { } } }", api.ErrTwice, 1, 2, 2)
}

// P14.1: a spawn's kind is any of the program's, a become's state one of its own kind's.
func TestMissing(t *testing.T) {
	wantOf(t, "kind a { state s { any { spawn a a; spawn b b; become s; become t; } } state t { } } kind b { state u { any { spawn c a; become u; } } }", api.OK)
	wantOf(t, "kind a { state s { any { spawn a c; } } } kind b { state c { } }", api.ErrMissing, 1, 1, 1, 1)
	wantOf(t, "kind a { state s { any { spawn a s; } } }", api.ErrMissing, 1, 1, 1, 1)
	wantOf(t, "kind a { state s { any { become a; } } }", api.ErrMissing, 1, 1, 1, 1)
	wantOf(t, "kind a { state s { any { unstash; become u; } } } kind b { state u { } }", api.ErrMissing, 1, 1, 1, 2)
	wantOf(t, "kind a { state s { } } kind b { state u { } state v { on x { } any { unstash; unstash; become s; } } }", api.ErrMissing, 2, 2, 2, 3)
	for _, e := range []api.Effect{{Do: api.DoSend, Ref: "self", Name: "zz"}, {Do: api.DoTimer, Delay: 1, Name: "zz"}, {Do: api.DoCancel, Name: "zz"}, {Do: api.DoFail, Name: "zz"}} {
		want(t, "a name of nothing", ofEffects(e), api.OK)
	}
}

// P14.1: behind what ends nothing stands, and nothing beside a stash.
func TestLastAndAlone(t *testing.T) {
	stash, unstash, stop, fail := api.Effect{Do: api.DoStash}, api.Effect{Do: api.DoUnstash}, api.Effect{Do: api.DoStop}, api.Effect{Do: api.DoFail, Name: "x"}
	wrong := api.Effect{Do: 13}
	for _, end := range []api.Effect{stop, fail} {
		want(t, "alone", ofEffects(end), api.OK)
		want(t, "last", ofEffects(unstash, end), api.OK)
		want(t, "first", ofEffects(end, unstash), api.ErrLast, 1, 1, 1, 1)
		want(t, "in the middle", ofEffects(unstash, end, unstash), api.ErrLast, 1, 1, 1, 2)
		want(t, "twice", ofEffects(unstash, end, end), api.ErrLast, 1, 1, 1, 2)
		want(t, "ahead of a wrong one", ofEffects(end, wrong), api.ErrLast, 1, 1, 1, 1)
		want(t, "behind a wrong one", ofEffects(wrong, end, end), api.ErrRange, 1, 1, 1, 1)
		want(t, "beside a stash", ofEffects(stash, end), api.ErrAlone, 1, 1, 1)
	}
	want(t, "stop and fail", ofEffects(stop, fail), api.ErrLast, 1, 1, 1, 1)
	want(t, "fail and stop", ofEffects(fail, stop), api.ErrLast, 1, 1, 1, 1)
	want(t, "alone", ofEffects(stash), api.OK)
	want(t, "twice", ofEffects(stash, stash), api.ErrAlone, 1, 1, 1)
	want(t, "ahead of another one", ofEffects(stash, unstash), api.ErrAlone, 1, 1, 1)
	want(t, "behind another one", ofEffects(unstash, unstash, stash), api.ErrAlone, 1, 1, 1)
	want(t, "beside a wrong one", ofEffects(wrong, stash), api.ErrAlone, 1, 1, 1)
	want(t, "a wrong one, alone", ofEffects(api.Effect{Do: api.DoStash, Ref: "a"}), api.ErrRange, 1, 1, 1, 1)
}

// P14.1: of all that is wrong at one place what the chapter names first, and a place ahead of those within it and behind it.
func TestTheFirstFault(t *testing.T) {
	wrongKind := api.Kind{Name: "A"}
	want(t, "too many wrong kinds", api.Program{Kinds: slices.Repeat([]api.Kind{wrongKind}, 9)}, api.ErrCount)
	want(t, "a wrong kind twice", api.Program{Kinds: []api.Kind{wrongKind, wrongKind}}, api.ErrRange, 1)
	wrongCases := slices.Repeat([]api.Case{{Reason: "A"}}, 9)
	badState := api.State{Name: "A"}
	of := func(name string, cases []api.Case, states ...api.State) api.Program {
		return api.Program{Kinds: []api.Kind{{Name: "a", Within: 1, States: []api.State{{Name: "s"}}}, {Name: name, Within: 1, Cases: cases, States: states}}}
	}
	want(t, "a kind: range", of("A", wrongCases), api.ErrRange, 2)
	want(t, "a kind: twice", of("a", wrongCases), api.ErrTwice, 2)
	want(t, "a kind: count of cases", of("b", wrongCases, badState), api.ErrCount, 2)
	want(t, "a kind: count of states", of("b", wrongCases[:2]), api.ErrCount, 2)
	want(t, "a kind: range of cases", of("b", wrongCases[:2], badState), api.ErrRange, 2)
	want(t, "a kind: a case twice", of("b", []api.Case{{Do: 1}, {Do: 1}}, badState), api.ErrTwice, 2)
	want(t, "a kind: a case twice, and another one wrong", of("b", []api.Case{{Do: 1}, {Do: 1}, {Reason: "x"}}, badState), api.ErrRange, 2)
	want(t, "its states", of("b", nil, badState, badState), api.ErrRange, 2, 1)

	wrongRows := slices.Repeat([]api.Row{{Tag: "A"}}, 17)
	want(t, "a state: range", of("b", nil, api.State{Name: "s"}, api.State{Name: "", Rows: wrongRows}), api.ErrRange, 2, 2)
	want(t, "a state: twice", of("b", nil, api.State{Name: "s"}, api.State{Name: "s", Rows: wrongRows}), api.ErrTwice, 2, 2)
	want(t, "a state: count", of("b", nil, api.State{Name: "s", Rows: wrongRows}, badState), api.ErrCount, 2, 1)
	want(t, "its rows", of("b", nil, api.State{Name: "s", Rows: wrongRows[:2]}, badState), api.ErrRange, 2, 1, 1)

	stashes := slices.Repeat([]api.Effect{{Do: api.DoStash, Ref: "a"}}, 9)
	rows := func(row api.Row) api.Program {
		return of("b", nil, api.State{Name: "s", Rows: []api.Row{{Tag: "x"}, row, {Tag: "A"}}}, badState)
	}
	want(t, "a row: range", rows(api.Row{Tag: "x", N: 1, Effects: stashes}), api.ErrRange, 2, 1, 2)
	want(t, "a row: twice", rows(api.Row{Tag: "x", Effects: stashes}), api.ErrTwice, 2, 1, 2)
	want(t, "a row: count", rows(api.Row{Tag: "y", Effects: stashes}), api.ErrCount, 2, 1, 2)
	want(t, "a row: alone", rows(api.Row{Tag: "y", Effects: stashes[:8]}), api.ErrAlone, 2, 1, 2)
	want(t, "its effects", rows(api.Row{Tag: "y", Effects: stashes[:1]}), api.ErrRange, 2, 1, 2, 1)
	want(t, "an effect: range, and last", rows(api.Row{Tag: "y", Effects: []api.Effect{{Do: api.DoFail}, {Do: 13}}}), api.ErrRange, 2, 1, 2, 1)
	want(t, "an effect: range, and missing", rows(api.Row{Tag: "y", Effects: []api.Effect{{Do: api.DoSpawn, Slot: "e", Name: "zz"}}}), api.ErrRange, 2, 1, 2, 1)
	want(t, "an effect: missing, ahead of one behind it", rows(api.Row{Tag: "y", Effects: []api.Effect{{Do: api.DoBecome, Name: "u"}, {Do: 13}}}), api.ErrMissing, 2, 1, 2, 1)
	want(t, "what stands behind", rows(api.Row{Tag: "y"}), api.ErrRange, 2, 1, 3)
}

// P14.1: each effect with whatever may stand in each of its fields.
func TestAnyEffect(t *testing.T) {
	p := ofEffects(api.Effect{})
	e := &p.Kinds[0].States[0].Rows[0].Effects[0]
	right := 0
	for do := -1; do < 15; do++ {
		for _, ref := range []string{"", "self", "d", "e"} {
			for _, slot := range []string{"", "a", "sender"} {
				for _, name := range []string{"", "a", "t", "zz", "A"} {
					for value := -1; value < 4; value++ {
						for _, n := range []int{-1, 0, 1, 255, 256} {
							for _, delay := range []int{-1, 0, 1, 4095, 4096} {
								*e = api.Effect{Do: do, Ref: ref, Slot: slot, Name: name, Value: value, N: n, Delay: delay}
								if wantPlainly(t, "any effect", p); t.Failed() {
									t.Fatalf("%+v", *e)
								}
								if check.Program(p) == nil {
									right++
								}
							}
						}
					}
				}
			}
		}
	}
	const send, timer, spawn, become, stash, unstash, watch, unwatch, cancel, hold, stop, fail = 2 * 3 * 5, 2 * 3 * 5, 1, 1, 1, 1, 2, 2, 3, 1, 1, 3
	if all := send + timer + spawn + become + stash + unstash + watch + unwatch + cancel + hold + stop + fail; right != all {
		t.Errorf("%d effects are right, want %d", right, all)
	}
}

// P14.1: many programs, right ones and such as were spoilt now and then, each the same at every run.
func TestManyPrograms(t *testing.T) {
	const programs = 6000
	told := map[string]int{}
	for seed := range int64(programs) {
		draw := rand.New(rand.NewSource(seed))
		p := drawRight(draw)
		how := "seed " + strconv.FormatInt(seed, 10)
		want(t, how, p, api.OK)
		for range 1 + draw.Intn(3) {
			spoil(draw, reflect.ValueOf(&p).Elem())
			wantPlainly(t, how, p)
		}
		err := check.Program(p)
		told[strconv.Itoa(int(check.Code(err)))+" deep "+strconv.Itoa(len(check.Where(err)))]++
		if t.Failed() {
			t.FailNow()
		}
	}
	for _, often := range strings.Fields("0.0 40.0 43.1 41.1 40.1 43.2 41.2 40.2 43.3 41.3 40.3 45.3 43.4 42.4 44.4") {
		if told[strings.Replace(often, ".", " deep ", 1)] < 10 {
			t.Errorf("of %d programs too few are %s: %v", programs, often, told)
		}
	}
}

// P14.2
func TestErrorOfABad(t *testing.T) {
	for _, c := range []struct {
		bad  check.Bad
		want string
	}{
		{check.Bad{Code: api.ErrMissing, Where: []int{1, 1, 1, 1}}, "troupe: error 42 in 1.1.1.1"},
		{check.Bad{Code: api.ErrCount}, "troupe: error 40"},
		{check.Bad{Code: api.ErrCount, Where: []int{}}, "troupe: error 40"},
		{check.Bad{Code: api.ErrTwice, Where: []int{8}}, "troupe: error 41 in 8"},
		{check.Bad{Code: api.ErrRange, Where: []int{2, 8, 16}}, "troupe: error 43 in 2.8.16"},
		{check.Bad{}, "troupe: error 0"},
		{check.Bad{Code: -7, Where: []int{0, -1, math.MaxInt, 4, 5}}, "troupe: error -7 in 0.-1.9223372036854775807.4.5"},
	} {
		if got := c.bad.Error(); got != c.want {
			t.Errorf("Error = %q, want %q", got, c.want)
		}
	}
	err := check.Program(ofEffects(api.Effect{Do: api.DoStop}, api.Effect{Do: api.DoUnstash}))
	if err == nil || err.Error() != "troupe: error 44 in 1.1.1.1" {
		t.Errorf("Program with something behind a stop: %v", err)
	}
}

// P14.2
func TestUnwrapOfABad(t *testing.T) {
	codes := []api.Errno{api.OK, api.ErrArg, api.ErrCount, api.ErrTwice, api.ErrMissing, api.ErrRange, api.ErrLast, api.ErrAlone, -1, math.MaxInt}
	for _, code := range codes {
		bad := &check.Bad{Code: code, Where: []int{9}}
		if got := bad.Unwrap(); got != error(code) {
			t.Errorf("Unwrap = %v, want %v", got, code)
		}
		for _, asked := range codes {
			if got := errors.Is(bad, asked); got != (asked == code) {
				t.Errorf("errors.Is of %d, asked for %d: %v", code, asked, got)
			}
		}
	}
}

// wantCodeAndWhere holds an error's number and place against what they are to be.
func wantCodeAndWhere(t *testing.T, how string, err error, code api.Errno, where ...int) {
	t.Helper()
	if gotCode, got := check.Code(err), check.Where(err); gotCode != code || !slices.Equal(got, where) {
		t.Errorf("%s: Code %d, Where %v, want %d, %v", how, gotCode, got, code, where)
	}
}

// P14.2: the first Bad, wherever it is wrapped.
func TestCodeAndWhere(t *testing.T) {
	wantCodeAndWhere(t, "no error", nil, api.OK)
	wantCodeAndWhere(t, "a Bad of nothing", &check.Bad{}, api.OK)
	wantCodeAndWhere(t, "a Bad of any numbers", &check.Bad{Code: api.ErrArg, Where: []int{0, -5}}, api.ErrArg, 0, -5)
	wantCodeAndWhere(t, "a number alone", api.ErrCount, api.ErrArg)
	wantCodeAndWhere(t, "a number alone", api.OK, api.ErrArg)
	wantCodeAndWhere(t, "another layer's fault", &lex.Fault{Code: api.ErrSign, At: 3}, api.ErrArg)
	for _, w := range trial.Wraps(&check.Bad{Code: api.ErrTwice, Where: []int{7, 8}}, &check.Bad{Code: api.ErrLast, Where: []int{9}}) {
		if w.Is {
			wantCodeAndWhere(t, w.How, w.Err, w.Found.Code, w.Found.Where...)
		} else {
			wantCodeAndWhere(t, w.How, w.Err, api.ErrArg)
		}
	}
}

// spawned tells whether an effect of a program spawns that kind.
func spawned(p api.Program, kind string) bool {
	for _, k := range p.Kinds {
		for _, s := range k.States {
			for _, r := range s.Rows {
				for _, e := range r.Effects {
					if e.Do == api.DoSpawn && e.Name == kind {
						return true
					}
				}
			}
		}
	}
	return false
}

// P14.3: a program that is right stays so without a kind that nobody spawns; without one that is spawned it doesn't.
func TestRightWithoutAKind(t *testing.T) {
	without, missing := 0, 0
	for seed := range int64(1000) {
		p := drawRight(rand.New(rand.NewSource(seed)))
		for i := 1; i < len(p.Kinds); i++ {
			less := api.Program{Kinds: slices.Delete(slices.Clone(p.Kinds), i, i+1)}
			if !spawned(less, p.Kinds[i].Name) {
				without++
				want(t, "without kind "+p.Kinds[i].Name, less, api.OK)
			} else if err := check.Program(less); check.Code(err) == api.ErrMissing && len(check.Where(err)) == 4 {
				missing++
			} else {
				t.Errorf("without kind %s, which is spawned: %v", p.Kinds[i].Name, err)
			}
		}
		if t.Failed() {
			t.Fatalf("seed %d", seed)
		}
	}
	if without < 100 || missing < 100 {
		t.Errorf("%d kinds that nobody spawns, %d that are: the draws tell too little", without, missing)
	}
}

// P14.3: a program that is right stays so with its rows in any order.
func TestRightInAnyOrderOfRows(t *testing.T) {
	for seed := range int64(1000) {
		draw := rand.New(rand.NewSource(seed))
		p := drawRight(draw)
		for _, k := range p.Kinds {
			for _, s := range k.States {
				slices.Reverse(s.Rows)
			}
		}
		want(t, "rows turned", p, api.OK)
		for _, k := range p.Kinds {
			for _, s := range k.States {
				draw.Shuffle(len(s.Rows), func(i, j int) { s.Rows[i], s.Rows[j] = s.Rows[j], s.Rows[i] })
			}
		}
		want(t, "rows mixed", p, api.OK)
	}
}

// P14.3: what is right can be written, if it isn't too long, and is right when it is read.
func TestRightIsWrittenAndRead(t *testing.T) {
	written := 0
	for seed := range int64(3000) {
		draw := rand.New(rand.NewSource(seed))
		p := drawRight(draw)
		if draw.Intn(2) == 0 {
			spoil(draw, reflect.ValueOf(&p).Elem())
		}
		if check.Program(p) != nil {
			continue
		}
		text, code := parse.Print(p)
		if code == api.ErrLong {
			continue
		}
		written++
		again, err := parse.Program(text)
		if code != api.OK || err != nil || !parse.Same(p, again) {
			t.Fatalf("seed %d: Print %d, %v", seed, code, err)
		}
		want(t, "read again", again, api.OK)
	}
	if written < 1500 {
		t.Errorf("only %d programs were written", written)
	}
}

// Rule 4: a list that is nil and one that is empty are the same.
func TestEmptyLists(t *testing.T) {
	want(t, "no kinds", api.Program{Kinds: []api.Kind{}}, api.ErrCount)
	want(t, "no states", ofKind(api.Kind{Name: "a", Within: 1, States: []api.State{}}), api.ErrCount, 1)
	want(t, "no cases", ofCases([]api.Case{}...), api.OK)
	want(t, "no rows", ofKind(api.Kind{Name: "a", Within: 1, Cases: []api.Case{}, States: []api.State{{Name: "s", Rows: []api.Row{}}}}), api.OK)
	want(t, "no effects", ofRow(api.Row{Effects: []api.Effect{}}), api.OK)
}

// Rule 5: what is handed in isn't changed, its spare room neither.
func TestArgumentsAreLeft(t *testing.T) {
	build := func(last api.Effect) api.Program {
		effects := []api.Effect{{Do: api.DoUnstash}, last, {Do: 11, Name: "spare"}}
		rows := []api.Row{{Tag: "x", Effects: effects[:2]}, {Tag: "spare"}}
		states := []api.State{{Name: "s", Rows: rows[:1]}, {Name: "spare"}}
		cases := []api.Case{{Do: 1}, {Reason: "spare", Do: 2}}
		kinds := []api.Kind{{Name: "a", Within: 1, Cases: cases[:1], States: states[:1]}, {Name: "spare"}}
		return api.Program{Kinds: kinds[:1]}
	}
	wholes := func(p api.Program) []any {
		k := p.Kinds[0]
		r := k.States[0].Rows
		return []any{p.Kinds[:2], k.Cases[:2], k.States[:2], r[:2], r[0].Effects[:3]}
	}
	for _, last := range []api.Effect{{Do: api.DoStop}, {Do: 13}, {Do: api.DoStash}, {Do: api.DoSpawn, Slot: "a", Name: "spare"}, {Do: api.DoBecome, Name: "spare"}} {
		p := build(last)
		wantPlainly(t, "with spare room", p)
		if !reflect.DeepEqual(wholes(p), wholes(build(last))) {
			t.Errorf("%v: an argument was changed", last)
		}
	}
}

// Rule 5: no answer's place shares its memory, or its spare room, with another one's, or with the error's.
func TestAnswersAreNewMemory(t *testing.T) {
	for _, c := range []struct {
		p     api.Program
		where []int
	}{
		{ofKind(api.Kind{}), []int{1}},
		{ofKind(api.Kind{Name: "a", Within: 1, States: []api.State{{}}}), []int{1, 1}},
		{ofRow(api.Row{Tag: "A"}), []int{1, 1, 1}},
		{ofEffects(api.Effect{}), []int{1, 1, 1, 1}},
	} {
		err, again := check.Program(c.p), check.Program(c.p)
		first, second := check.Where(err), check.Where(err)
		spoilt := func(list []int) {
			for i := range list[:cap(list)] {
				list[:cap(list)][i] = 99
			}
			_ = append(list, 99)
		}
		spoilt(first)
		wantCodeAndWhere(t, "an answer was changed", err, api.ErrRange, c.where...)
		if !slices.Equal(second, c.where) {
			t.Errorf("another answer has become %v, want %v", second, c.where)
		}
		var bad *check.Bad
		if !errors.As(err, &bad) {
			t.Fatalf("%v", err)
		}
		spoilt(bad.Where)
		bad.Code = 99
		wantCodeAndWhere(t, "another error was changed", again, api.ErrRange, c.where...)
		want(t, "an error was changed", c.p, api.ErrRange, c.where...)
		if !slices.Equal(second, c.where) {
			t.Errorf("an answer has become %v with its error, want %v", second, c.where)
		}
	}
}

// Rule 6: what was asked before is nothing to what is asked now.
func TestAnswersHangOnNothingElse(t *testing.T) {
	for range 3 {
		want(t, "right", ofEffects(), api.OK)
		want(t, "a wrong effect", ofEffects(api.Effect{}), api.ErrRange, 1, 1, 1, 1)
		want(t, "no kinds", api.Program{}, api.ErrCount)
	}
}
