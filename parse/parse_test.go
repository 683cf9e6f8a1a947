package parse_test

import (
	"math"
	"math/rand"
	"reflect"
	"strconv"
	"strings"
	"testing"
	"unsafe"

	"troupe/api"
	"troupe/lex"
	"troupe/parse"
	"troupe/trial"
)

// wantFault holds a refusal against its number and place.
func wantFault(t *testing.T, text string, code api.Errno, at int) {
	t.Helper()
	p, err := parse.Program(text)
	if !reflect.DeepEqual(p, api.Program{}) {
		t.Errorf("Program(%s) = %v beside a fault", trial.Short(text), p)
	}
	trial.Fault(t, text, err, code, at)
}

// wantProgram holds a text's program against what it is to be.
func wantProgram(t *testing.T, text string, want api.Program) {
	t.Helper()
	p, err := parse.Program(text)
	if err != nil || !same(p, want) {
		t.Errorf("Program(%s) = %v, %v, want %v", trial.Short(text), p, err, want)
	}
}

// same holds programs against each other, lists that are nil and those that are empty being the same.
func same(a, b api.Program) bool {
	return reflect.DeepEqual(clean(a), clean(b))
}

// clean copies a program, with lists that are new, and not nil.
func clean(p api.Program) api.Program {
	kinds := append([]api.Kind{}, p.Kinds...)
	for i := range kinds {
		kinds[i].Cases = append([]api.Case{}, kinds[i].Cases...)
		kinds[i].States = append([]api.State{}, kinds[i].States...)
		for j := range kinds[i].States {
			state := &kinds[i].States[j]
			state.Rows = append([]api.Row{}, state.Rows...)
			for k := range state.Rows {
				state.Rows[k].Effects = append([]api.Effect{}, state.Rows[k].Effects...)
			}
		}
	}
	return api.Program{Kinds: kinds}
}

// wantRefused holds what is told of a text against the form.
func wantRefused(t *testing.T, text string) {
	t.Helper()
	if code, at := refused(text); code != api.OK {
		wantFault(t, text, code, at)
	} else if _, err := parse.Program(text); err != nil {
		t.Errorf("Program(%s): %v", trial.Short(text), err)
	}
}

// ofEffects is a program whose only row has these effects.
func ofEffects(effects ...api.Effect) api.Program {
	return ofRow(api.Row{Tag: "x", Effects: effects})
}

func ofRow(row api.Row) api.Program {
	return ofKind(api.Kind{Name: "a", Within: 1, States: []api.State{{Name: "s", Rows: []api.Row{row}}}})
}

func ofCase(c api.Case) api.Program {
	return ofKind(api.Kind{Name: "a", Within: 1, Cases: []api.Case{c}})
}

func ofKind(k api.Kind) api.Program {
	return api.Program{Kinds: []api.Kind{k}}
}

// wantPrint holds a program's text against what it is to be, and reads it again.
func wantPrint(t *testing.T, p api.Program, want string) {
	t.Helper()
	if text, code := parse.Print(p); text != want || code != api.OK {
		t.Errorf("Print = %s, %d, want %s", trial.Short(text), code, trial.Short(want))
	}
	wantProgram(t, want, p)
}

// wantUnwritable holds a program's refusal against its number.
func wantUnwritable(t *testing.T, p api.Program, code api.Errno) {
	t.Helper()
	if text, got := parse.Print(p); text != "" || got != code {
		t.Errorf("Print(%v) = %s, %d, want error %d", p, trial.Short(text), got, code)
	}
}

func TestExamplesOfTheChapter(t *testing.T) {
	p := ofKind(api.Kind{Name: "a", Within: 1, States: []api.State{{Name: "s", Rows: []api.Row{
		{Tag: "go", Only: true, N: 3, Effects: []api.Effect{{Do: api.DoSend, Ref: "b", Name: "x", Value: api.Less}, {Do: api.DoStop}}},
		{},
	}}}})
	wantProgram(t, "kind a { state s { on go 3 { send b x less; stop; } any { } } }", p)
	wantPrint(t, p, "kind a { limit 0 in 1 ; state s { on go 3 { send b x less ; stop ; } any { } } }")
	wantFault(t, "kind a", api.ErrEnd, 6)
	wantFault(t, "kind { }", api.ErrWord, 5)
	wantPrint(t, api.Program{}, "")
}

// P13.1: each part of the form, and each field that it comes to.
func TestProgramOfEachPart(t *testing.T) {
	wantProgram(t, "kind a { }", ofKind(api.Kind{Name: "a", Within: 1}))
	wantProgram(t, "kind a { } kind b { } kind a { }", api.Program{Kinds: []api.Kind{{Name: "a", Within: 1}, {Name: "b", Within: 1}, {Name: "a", Within: 1}}})
	wantProgram(t, "kind a { limit 3 in 10; }", ofKind(api.Kind{Name: "a", Limit: 3, Within: 10}))
	wantProgram(t, "kind a { limit 0 in 0; }", ofKind(api.Kind{Name: "a"}))
	wantProgram(t, "kind a { limit 65535 in 065535; }", ofKind(api.Kind{Name: "a", Limit: 65535, Within: 65535}))
	for word, do := range map[string]int{"resume": 1, "restart": 2, "stop": 3, "escalate": 4} {
		wantProgram(t, "kind a { case boom "+word+"; }", ofCase(api.Case{Reason: "boom", Do: do}))
		wantProgram(t, "kind a { else "+word+"; }", ofCase(api.Case{Do: do}))
	}
	wantProgram(t, "kind a { else stop; case x resume; else restart; case x stop; }", ofKind(api.Kind{Name: "a", Within: 1, Cases: []api.Case{
		{Do: api.Stop}, {Reason: "x", Do: api.Resume}, {Do: api.Restart}, {Reason: "x", Do: api.Stop}}}))
	wantProgram(t, "kind a { state s { } state t { any { } } state s { } }", ofKind(api.Kind{Name: "a", Within: 1, States: []api.State{
		{Name: "s"}, {Name: "t", Rows: []api.Row{{}}}, {Name: "s"}}}))
	wantProgram(t, "kind a { state s { any { } } }", ofRow(api.Row{}))
	wantProgram(t, "kind a { state s { any { stop; } } }", ofRow(api.Row{Effects: []api.Effect{{Do: 11}}}))
	wantProgram(t, "kind a { state s { on x { } } }", ofRow(api.Row{Tag: "x"}))
	wantProgram(t, "kind a { state s { on x 0 { } } }", ofRow(api.Row{Tag: "x", Only: true}))
	wantProgram(t, "kind a { state s { on x 65535 { stash; } } }", ofRow(api.Row{Tag: "x", Only: true, N: 65535, Effects: []api.Effect{{Do: 4}}}))
	wantProgram(t, "kind a { limit 1 in 2; case x stop; state s { } }", ofKind(api.Kind{Name: "a", Limit: 1, Within: 2,
		Cases: []api.Case{{Reason: "x", Do: api.Stop}}, States: []api.State{{Name: "s"}}}))
}

// eachEffect are all effects, as texts and as what they are read as.
var eachEffect = []struct {
	text   string
	effect api.Effect
}{
	{"send b x keep ;", api.Effect{Do: 1, Ref: "b", Name: "x"}},
	{"send self x less ;", api.Effect{Do: 1, Ref: "self", Name: "x", Value: 1}},
	{"send b x 0 ;", api.Effect{Do: 1, Ref: "b", Name: "x", Value: 2}},
	{"send b x 65535 ;", api.Effect{Do: 1, Ref: "b", Name: "x", Value: 2, N: 65535}},
	{"spawn c kid ;", api.Effect{Do: 2, Slot: "c", Name: "kid"}},
	{"become run ;", api.Effect{Do: 3, Name: "run"}},
	{"stash ;", api.Effect{Do: 4}},
	{"unstash ;", api.Effect{Do: 5}},
	{"watch d ;", api.Effect{Do: 6, Ref: "d"}},
	{"unwatch d ;", api.Effect{Do: 7, Ref: "d"}},
	{"timer 9 t keep ;", api.Effect{Do: 8, Delay: 9, Name: "t"}},
	{"timer 65535 t less ;", api.Effect{Do: 8, Delay: 65535, Name: "t", Value: 1}},
	{"timer 0 t 7 ;", api.Effect{Do: 8, Name: "t", Value: 2, N: 7}},
	{"cancel t ;", api.Effect{Do: 9, Name: "t"}},
	{"hold a ;", api.Effect{Do: 10, Slot: "a"}},
	{"stop ;", api.Effect{Do: 11}},
	{"fail boom ;", api.Effect{Do: 12, Name: "boom"}},
}

// P13.1 and P13.2: each effect, alone and behind any other one.
func TestEachEffect(t *testing.T) {
	const ahead, behind = "kind a { limit 0 in 1 ; state s { on x { ", " } } }"
	for _, first := range eachEffect {
		wantPrint(t, ofEffects(first.effect), ahead+first.text+behind)
		for _, then := range eachEffect {
			wantPrint(t, ofEffects(first.effect, then.effect), ahead+first.text+" "+then.text+behind)
		}
	}
}

// P13.1 and P13.4: a word of the form may stand wherever a name may.
func TestNamesHaveNoMeaning(t *testing.T) {
	const words = "kind limit in case else resume restart stop escalate state on any send spawn become stash unstash watch unwatch timer cancel hold fail keep less self nobody a_1 z"
	for _, n := range strings.Fields(words) {
		text := "kind N { limit 1 in 2 ; case N stop ; else resume ; state N { on N { send N N keep ; spawn N N ; become N ; watch N ; unwatch N ; } on N 3 { timer 4 N less ; cancel N ; hold N ; fail N ; } any { } } }"
		want := ofKind(api.Kind{Name: n, Limit: 1, Within: 2, Cases: []api.Case{{Reason: n, Do: 3}, {Do: 1}}, States: []api.State{{Name: n, Rows: []api.Row{
			{Tag: n, Effects: []api.Effect{{Do: 1, Ref: n, Name: n}, {Do: 2, Slot: n, Name: n}, {Do: 3, Name: n}, {Do: 6, Ref: n}, {Do: 7, Ref: n}}},
			{Tag: n, Only: true, N: 3, Effects: []api.Effect{{Do: 8, Delay: 4, Name: n, Value: 1}, {Do: 9, Name: n}, {Do: 10, Slot: n}, {Do: 12, Name: n}}},
			{},
		}}}})
		wantPrint(t, want, strings.ReplaceAll(text, "N", n))
	}
}

// P13.1: what stands between tokens, and noughts ahead, count for nothing.
func TestProgramBetweenTokens(t *testing.T) {
	want := ofKind(api.Kind{Name: "a", Limit: 3, Within: 10, Cases: []api.Case{{Do: api.Stop}}, States: []api.State{{Name: "s", Rows: []api.Row{
		{Tag: "x", Only: true, N: 7, Effects: []api.Effect{{Do: api.DoTimer, Delay: 20, Name: "t", Value: api.Const, N: 1}}}}}}})
	for _, text := range []string{
		"kind a{limit 3 in 10;else stop;state s{on x 7{timer 20 t 1;}}}",
		"kind a{limit 03 in 00010;else stop;state s{on x 0000000000000000000000007{timer 020 t 01;}}}",
		" \n\t\rkind\na\n{\nlimit\n3\nin\n10\n;\nelse\nstop\n;\nstate\ns\n{\non\nx\n7\n{\ntimer\n20\nt\n1\n;\n}\n}\n}\n",
		"# kind b {\nkind a # }\n{ limit 3 in 10; # ;\n else stop; state s { on x 7 { timer 20 t 1; } } } # kind",
	} {
		wantProgram(t, text, want)
	}
	for _, text := range []string{"", " ", "\n\n", "# kind a", "# $\n"} {
		wantProgram(t, text, api.Program{})
	}
}

// P13.1: what can't stand there is told at its place; what is missing, at the text's length.
func TestProgramOfWrongTexts(t *testing.T) {
	for _, c := range []struct {
		text string
		code api.Errno
		at   int
	}{
		{"x", api.ErrWord, 0},
		{"7", api.ErrWord, 0},
		{" }", api.ErrWord, 1},
		{"kinda { }", api.ErrWord, 0},
		{"kind 7 { }", api.ErrWord, 5},
		{"kind a b { }", api.ErrWord, 7},
		{"kind a { } }", api.ErrWord, 11},
		{"kind a { } b", api.ErrWord, 11},
		{"kind a { limit 3; }", api.ErrWord, 16},
		{"kind a { limit x in 3; }", api.ErrWord, 15},
		{"kind a { limit 3 in x; }", api.ErrWord, 20},
		{"kind a { limit 3 in 4 }", api.ErrWord, 22},
		{"kind a { limit 3 in 4; limit 3 in 4; }", api.ErrWord, 23},
		{"kind a { else stop; limit 3 in 4; }", api.ErrWord, 20},
		{"kind a { case stop; }", api.ErrWord, 18},
		{"kind a { case 7 stop; }", api.ErrWord, 14},
		{"kind a { case x send; }", api.ErrWord, 16},
		{"kind a { case x 1; }", api.ErrWord, 16},
		{"kind a { else x stop; }", api.ErrWord, 14},
		{"kind a { else stop }", api.ErrWord, 19},
		{"kind a { state s { } else stop; }", api.ErrWord, 21},
		{"kind a { state s { } case x stop; }", api.ErrWord, 21},
		{"kind a { state { } }", api.ErrWord, 15},
		{"kind a { state s { send a b keep; } }", api.ErrWord, 19},
		{"kind a { on x { } }", api.ErrWord, 9},
		{"kind a { state s { any x { } } }", api.ErrWord, 23},
		{"kind a { state s { any 3 { } } }", api.ErrWord, 23},
		{"kind a { state s { on { } } }", api.ErrWord, 22},
		{"kind a { state s { on 3 { } } }", api.ErrWord, 22},
		{"kind a { state s { on x 3 4 { } } }", api.ErrWord, 26},
		{"kind a { state s { on x y { } } }", api.ErrWord, 24},
		{"kind a { state s { on x { resume; } } }", api.ErrWord, 26},
		{"kind a { state s { on x { ; } } }", api.ErrWord, 26},
		{"kind a { state s { on x { stop } } }", api.ErrWord, 31},
		{"kind a { state s { on x { stop; ; } } }", api.ErrWord, 32},
		{"kind a { state s { on x { stash x; } } }", api.ErrWord, 32},
		{"kind a { state s { on x { send b x; } } }", api.ErrWord, 34},
		{"kind a { state s { on x { send b x more; } } }", api.ErrWord, 35},
		{"kind a { state s { on x { send b 3 keep; } } }", api.ErrWord, 33},
		{"kind a { state s { on x { send b x keep 3; } } }", api.ErrWord, 40},
		{"kind a { state s { on x { timer t 3 keep; } } }", api.ErrWord, 32},
		{"kind a { state s { on x { watch; } } }", api.ErrWord, 31},
		{"kind a { state s { on x { 3; } } }", api.ErrWord, 26},
		{"kind a { ", api.ErrEnd, 9},
		{"kind a # { }", api.ErrEnd, 12},
		{"kind", api.ErrEnd, 4},
		{"kind a { state s { on x", api.ErrEnd, 23},
		{"kind a { state s { on x 3", api.ErrEnd, 25},
		{"kind a { state s { on x { } }\n\n", api.ErrEnd, 31},
		{"kind a { else", api.ErrEnd, 13},
		{"kind a { } kind b {", api.ErrEnd, 19},
	} {
		wantFault(t, c.text, c.code, c.at)
		if code, at := refused(c.text); code != c.code || at != c.at {
			t.Errorf("%q: by the form %d at %d, want %d at %d", c.text, code, at, c.code, c.at)
		}
	}
}

// P13.1: layer 12's faults count ahead of this layer's, wherever they stand.
func TestProgramOfWrongTokens(t *testing.T) {
	wantFault(t, "kind a { $", api.ErrSign, 9)
	wantFault(t, "x $", api.ErrSign, 2)
	wantFault(t, "} } } 65536", api.ErrNumber, 6)
	wantFault(t, "} 7a", api.ErrNumber, 2)
	wantFault(t, "} Kind", api.ErrSign, 2)
	wantFault(t, "kind "+strings.Repeat("a", 17)+" { }", api.ErrName, 5)
	wantFault(t, "kind a { limit 65536 in 1; }", api.ErrNumber, 15)
	whole := "kind a { }" + strings.Repeat(" ", 16384)
	wantProgram(t, whole[:16384], ofKind(api.Kind{Name: "a", Within: 1}))
	wantFault(t, whole[:16385], api.ErrLong, 0)
	wantFault(t, strings.Repeat("}", 16385), api.ErrLong, 0)
	wantFault(t, strings.Repeat("}", 16384), api.ErrWord, 0)
	wantFault(t, "kind"+strings.Repeat(" ", 16380), api.ErrEnd, 16384)
}

// P13.1: no error is one that holds nil.
func TestNoFaultIsNoError(t *testing.T) {
	for _, text := range []string{"", "#", "kind a { }"} {
		if _, err := parse.Program(text); err != nil {
			t.Errorf("Program(%q): an error", text)
		}
	}
}

// tokensToTry are all words of the form, and one of each other kind.
var tokensToTry = func() []string {
	tokens := []string{"x", "0", "7", "{", "}", ";"}
	for _, words := range rules {
		for _, word := range words {
			if word, err := strconv.Unquote(word); err == nil && lex.Name(word) {
				tokens = append(tokens, word)
			}
		}
	}
	return tokens
}()

// P13.1: all short rows of tokens are told as the form tells them.
func TestProgramOfShortTexts(t *testing.T) {
	var grow func(text string, left int)
	grow = func(text string, left int) {
		wantRefused(t, text)
		if code, _ := refused(text); left == 0 || code == api.ErrWord {
			return
		}
		for _, token := range tokensToTry {
			grow(text+" "+token, left-1)
		}
	}
	for _, ahead := range []string{"", "kind a {", "kind a { limit 1 in 2;", "kind a { case x", "kind a { else stop;", "kind a { state s {", "kind a { state s { on x", "kind a { state s { on x {", "kind a { state s { any { stop;", "kind a { state s { any { send", "kind a { state s { any { timer", "kind a { state s { any { timer 1 x"} {
		grow(ahead, 2)
	}
}

// P13.1: along many texts that can stand, each token is tried at each place.
func TestProgramOfEachTokenAtEachPlace(t *testing.T) {
	for seed := range int64(60) {
		draw := rand.New(rand.NewSource(seed))
		text := ""
		for range 40 {
			var can []string
			for _, token := range tokensToTry {
				longer := text + token
				wantRefused(t, longer)
				if code, _ := refused(longer); code != api.ErrWord {
					can = append(can, longer)
				}
			}
			text = can[draw.Intn(len(can))] + []string{" ", "\n", " # }\n"}[draw.Intn(3)]
		}
		wantRefused(t, text)
	}
}

// P13.2: each number, up to its edges and behind them.
func TestPrintOfNumbers(t *testing.T) {
	for _, c := range []struct {
		text string
		of   func(n int) api.Program
	}{
		{"kind a { limit N in 1 ; }", func(n int) api.Program { return ofKind(api.Kind{Name: "a", Limit: n, Within: 1}) }},
		{"kind a { limit 0 in N ; }", func(n int) api.Program { return ofKind(api.Kind{Name: "a", Within: n}) }},
		{"kind a { limit 0 in 1 ; state s { on x N { } } }", func(n int) api.Program { return ofRow(api.Row{Tag: "x", Only: true, N: n}) }},
		{"kind a { limit 0 in 1 ; state s { on x { send b y N ; } } }", func(n int) api.Program {
			return ofEffects(api.Effect{Do: api.DoSend, Ref: "b", Name: "y", Value: api.Const, N: n})
		}},
		{"kind a { limit 0 in 1 ; state s { on x { timer 3 y N ; } } }", func(n int) api.Program {
			return ofEffects(api.Effect{Do: api.DoTimer, Delay: 3, Name: "y", Value: api.Const, N: n})
		}},
		{"kind a { limit 0 in 1 ; state s { on x { timer N y less ; } } }", func(n int) api.Program {
			return ofEffects(api.Effect{Do: api.DoTimer, Delay: n, Name: "y", Value: api.Less})
		}},
	} {
		for _, n := range []int{0, 1, 9, 10, 4095, 4096, 65534, 65535} {
			wantPrint(t, c.of(n), strings.ReplaceAll(c.text, "N", strconv.Itoa(n)))
		}
		for _, n := range []int{-1, -65535, 65536, 65537, 1 << 32, math.MinInt, math.MaxInt} {
			wantUnwritable(t, c.of(n), api.ErrArg)
		}
	}
}

// P13.2: each name; only a case's reason and a row's tag may be empty, and that not if it is only at a number.
func TestPrintOfNames(t *testing.T) {
	wrong := []string{"A", "_a", "7", "7a", "a b", "a ", " a", "a-b", "{", ";", "a;", "a#", "#", "é", "\x00", "\xff", strings.Repeat("a", 17), strings.Repeat("a", 1<<20)}
	for _, c := range []struct {
		text  string
		empty string // the text of an empty one, if it may be empty
		of    func(name string) api.Program
	}{
		{"kind N { limit 0 in 1 ; }", "", func(n string) api.Program { return ofKind(api.Kind{Name: n, Within: 1}) }},
		{"kind a { limit 0 in 1 ; case N stop ; }", "kind a { limit 0 in 1 ; else stop ; }", func(n string) api.Program { return ofCase(api.Case{Reason: n, Do: api.Stop}) }},
		{"kind a { limit 0 in 1 ; state N { } }", "", func(n string) api.Program {
			return ofKind(api.Kind{Name: "a", Within: 1, States: []api.State{{Name: n}}})
		}},
		{"kind a { limit 0 in 1 ; state s { on N { } } }", "kind a { limit 0 in 1 ; state s { any { } } }", func(n string) api.Program { return ofRow(api.Row{Tag: n}) }},
		{"kind a { limit 0 in 1 ; state s { on N 0 { } } }", "", func(n string) api.Program { return ofRow(api.Row{Tag: n, Only: true}) }},
	} {
		for _, name := range []string{"a", "z9_", "else", "any", strings.Repeat("z", 16)} {
			wantPrint(t, c.of(name), strings.ReplaceAll(c.text, "N", name))
		}
		for _, name := range wrong {
			wantUnwritable(t, c.of(name), api.ErrArg)
		}
		if c.empty != "" {
			wantPrint(t, c.of(""), c.empty)
		} else {
			wantUnwritable(t, c.of(""), api.ErrArg)
		}
	}
	for _, c := range eachEffect {
		for field := range fieldsOf(&c.effect) {
			for _, name := range append(wrong, "") {
				effect := c.effect
				if text := fieldsOf(&effect)[field]; text.Kind() == reflect.String && text.String() != "" {
					text.SetString(name)
					wantUnwritable(t, ofEffects(effect), api.ErrArg)
				}
			}
		}
	}
}

// fieldsOf are the fields of an effect, to be read and set.
func fieldsOf(e *api.Effect) []reflect.Value {
	var fields []reflect.Value
	for i := range reflect.TypeOf(*e).NumField() {
		fields = append(fields, reflect.ValueOf(e).Elem().Field(i))
	}
	return fields
}

// P13.2: what is done is one of those that are.
func TestPrintOfWhatIsDone(t *testing.T) {
	for _, do := range []int{-1, 0, 5, 6, math.MinInt, math.MaxInt} {
		wantUnwritable(t, ofCase(api.Case{Do: do}), api.ErrArg)
		wantUnwritable(t, ofCase(api.Case{Reason: "x", Do: do}), api.ErrArg)
	}
	for _, do := range []int{-1, 0, 13, 14, math.MinInt, math.MaxInt} {
		wantUnwritable(t, ofEffects(api.Effect{Do: do}), api.ErrArg)
		wantUnwritable(t, ofEffects(api.Effect{Do: do, Name: "x"}), api.ErrArg)
		wantUnwritable(t, ofEffects(api.Effect{Do: do, Ref: "b", Name: "x"}), api.ErrArg)
	}
	for _, value := range []int{-1, 3, 4, math.MinInt, math.MaxInt} {
		for n := range 2 {
			wantUnwritable(t, ofEffects(api.Effect{Do: api.DoSend, Ref: "b", Name: "x", Value: value, N: n}), api.ErrArg)
			wantUnwritable(t, ofEffects(api.Effect{Do: api.DoTimer, Name: "x", Value: value, N: n}), api.ErrArg)
		}
	}
}

// P13.2: what a row or an effect doesn't have is zero.
func TestPrintOfWhatIsNotThere(t *testing.T) {
	for _, n := range []int{-1, 1, 65535, 65536, math.MinInt, math.MaxInt} {
		wantUnwritable(t, ofRow(api.Row{Tag: "x", N: n}), api.ErrArg)
		wantUnwritable(t, ofRow(api.Row{N: n}), api.ErrArg)
		wantUnwritable(t, ofRow(api.Row{N: n, Only: true}), api.ErrArg)
		for value := range 2 {
			wantUnwritable(t, ofEffects(api.Effect{Do: api.DoSend, Ref: "b", Name: "x", Value: value, N: n}), api.ErrArg)
			wantUnwritable(t, ofEffects(api.Effect{Do: api.DoTimer, Name: "x", Value: value, N: n}), api.ErrArg)
		}
	}
	has := map[int]string{1: "Ref Name Value", 2: "Slot Name", 3: "Name", 6: "Ref", 7: "Ref", 8: "Delay Name Value", 9: "Name", 10: "Slot", 12: "Name"}
	for _, c := range eachEffect {
		effect := reflect.TypeOf(c.effect)
		for i := 1; i < effect.NumField(); i++ {
			spoilt := c.effect
			field := fieldsOf(&spoilt)[i]
			if strings.Contains(has[c.effect.Do], effect.Field(i).Name) || !field.IsZero() {
				continue
			}
			if field.Kind() == reflect.String {
				field.SetString("x")
			} else {
				field.SetInt(1)
			}
			if effect.Field(i).Name == "N" && c.effect.Value == api.Const {
				continue
			}
			wantUnwritable(t, ofEffects(spoilt), api.ErrArg)
		}
	}
}

// P13.2: whatever isn't writable is told, wherever it stands.
func TestPrintOfOneThatIsNotWritable(t *testing.T) {
	for seed := range int64(300) {
		draw := rand.New(rand.NewSource(seed))
		p := drawProgram(draw)
		p.Kinds = append(p.Kinds, api.Kind{Name: "a", Cases: []api.Case{{Do: 1}}, States: []api.State{{Name: "s", Rows: []api.Row{{Effects: []api.Effect{{Do: 4}}}}}}})
		k := &p.Kinds[draw.Intn(len(p.Kinds))]
		last := &p.Kinds[len(p.Kinds)-1]
		switch draw.Intn(7) {
		case 0:
			k.Name = "K"
		case 1:
			k.Limit = -1
		case 2:
			k.Within = 65536
		case 3:
			last.Cases[0].Reason = "B"
		case 4:
			last.States[0].Name = ""
		case 5:
			last.States[0].Rows[0].Only = true
		case 6:
			last.States[0].Rows[0].Effects[0].Slot = "a"
		}
		wantUnwritable(t, p, api.ErrArg)
	}
}

// long is a program whose text has that many bytes; at least 200.
func long(bytes int) api.Program {
	k := api.Kind{Name: "a", Within: 1, States: []api.State{{Name: "s"}}}
	left := bytes - len("kind a { limit 0 in 1 ; state s { } }")
	for ; left > 60; left -= len(" on x { }") {
		k.States[0].Rows = append(k.States[0].Rows, api.Row{Tag: "x"})
	}
	for ; left > 0; left -= len(" on x { }") {
		extra := 0
		if left < 2*len(" on x { }") {
			extra = left - len(" on x { }")
		}
		k.States[0].Rows = append(k.States[0].Rows, api.Row{Tag: "x" + strings.Repeat("y", extra)})
		left -= extra
	}
	return ofKind(k)
}

// P13.2: a text that is just as long as may be is written, a longer one isn't; not writable counts ahead of too long.
func TestPrintOfLongPrograms(t *testing.T) {
	for n := 200; n < 260; n++ {
		if text, code := parse.Print(long(n)); len(text) != n || code != api.OK {
			t.Errorf("Print of %d bytes: %d, %d", n, len(text), code)
		}
	}
	for n := 16370; n < 16400; n++ {
		p := long(n)
		if n > 16384 {
			wantUnwritableLong(t, p, api.ErrLong)
		} else if text, code := parse.Print(p); len(text) != n || code != api.OK {
			t.Errorf("Print of %d bytes: %d, %d", n, len(text), code)
		} else {
			wantProgram(t, text, p)
		}
		p.Kinds = append(p.Kinds, api.Kind{Name: "b", States: []api.State{{Name: "s", Rows: []api.Row{{N: 1}}}}})
		wantUnwritableLong(t, p, api.ErrArg)
		p = long(n)
		p.Kinds[0].Name = ""
		wantUnwritableLong(t, p, api.ErrArg)
	}
	wantUnwritableLong(t, long(1<<20), api.ErrLong)
	many := api.Program{Kinds: make([]api.Kind, 5000)}
	wantUnwritableLong(t, many, api.ErrArg)
	for i := range many.Kinds {
		many.Kinds[i].Name = "k"
	}
	wantUnwritableLong(t, many, api.ErrLong)
}

// wantUnwritableLong is wantUnwritable of a program that is too long to be told.
func wantUnwritableLong(t *testing.T, p api.Program, code api.Errno) {
	t.Helper()
	if text, got := parse.Print(p); text != "" || got != code {
		t.Errorf("Print = %s, %d, want error %d", trial.Short(text), got, code)
	}
}

// P13.1, P13.2 and P13.4: many programs, there and back, written tightly and loosely.
func TestThereAndBack(t *testing.T) {
	written := 0
	for seed := range int64(2000) {
		draw := rand.New(rand.NewSource(seed))
		p := drawProgram(draw)
		all := words(p)
		if want := strings.Join(all, " "); len(want) <= 16384 {
			written++
			wantPrint(t, p, want)
		}
		if text := loosely(draw, all); len(text) <= 16384 {
			wantProgram(t, text, p)
		}
		if len(all) > 0 {
			cut := draw.Intn(len(all))
			wantRefused(t, strings.Join(all[:cut], " "))
			wantRefused(t, strings.Join(append(all[:cut:cut], all[cut+1:]...), " "))
		}
		if t.Failed() {
			t.Fatalf("seed %d", seed)
		}
	}
	if written < 1900 {
		t.Errorf("only %d programs were written", written)
	}
}

// P13.4: what is read is written, and read as the same.
func TestWhatIsReadIsWritten(t *testing.T) {
	for _, text := range []string{
		"",
		"# nothing",
		"kind a { }",
		"kind a { limit 007 in 0; } kind a { else stop; else stop; }",
		"kind any { case else stop; state state { on on 0 { send send send 0; } any { } any { stop; stash; } } }",
		"kind k { state wait { on open { unstash; become run; } any { stash; } } state run { on go { timer 3 t 1; cancel t; hold a; } } }",
	} {
		p, err := parse.Program(text)
		written, code := parse.Print(p)
		again, errAgain := parse.Program(written)
		if err != nil || code != api.OK || errAgain != nil || !same(p, again) || !parse.Same(p, again) {
			t.Errorf("%q: %v, %d, %v: %q", text, err, code, errAgain, written)
		}
	}
	tight := "kind a{" + strings.Repeat("else stop;", 1600) + "}"
	p, err := parse.Program(tight)
	if err != nil {
		t.Fatalf("Program of many cases: %v", err)
	}
	wantUnwritableLong(t, p, api.ErrLong)
}

// P13.3
func TestSame(t *testing.T) {
	full := func() api.Program {
		return api.Program{Kinds: []api.Kind{{Name: "a", Limit: 1, Within: 2,
			Cases: []api.Case{{Reason: "x", Do: 1}, {Do: 2}},
			States: []api.State{{Name: "s", Rows: []api.Row{{Tag: "x", Only: true, N: 3, Effects: []api.Effect{
				{Do: 1, Ref: "b", Slot: "c", Name: "n", Value: 2, N: 4, Delay: 5}, {Do: 4}}}, {Tag: "y"}}}, {Name: "t"}}},
			{Name: "b"}}}
	}
	if !parse.Same(full(), full()) {
		t.Error("not the same as itself")
	}
	changes := 0
	var change func(v reflect.Value, whole *api.Program)
	differ := func(whole *api.Program) {
		t.Helper()
		changes++
		if parse.Same(*whole, full()) || parse.Same(full(), *whole) {
			t.Errorf("the same: %v", *whole)
		}
	}
	change = func(v reflect.Value, whole *api.Program) {
		before := reflect.New(v.Type()).Elem()
		before.Set(v)
		switch v.Kind() {
		case reflect.Struct:
			for i := range v.NumField() {
				change(v.Field(i), whole)
			}
			return
		case reflect.Slice:
			for i := range v.Len() {
				change(v.Index(i), whole)
			}
			v.Set(reflect.Append(v, reflect.Zero(v.Type().Elem())))
			differ(whole)
			v.Set(before)
			if v.Len() > 0 {
				v.Set(v.Slice(0, v.Len()-1))
				differ(whole)
				v.Set(before)
				v.Set(v.Slice(1, v.Len()))
				differ(whole)
			}
			if v.Len() > 0 {
				turned := reflect.MakeSlice(v.Type(), 0, 2)
				turned = reflect.Append(turned, before.Index(1), before.Index(0))
				v.Set(turned)
				differ(whole)
			}
		case reflect.String:
			v.SetString(v.String() + "z")
			differ(whole)
		case reflect.Int:
			v.SetInt(v.Int() + 1)
			differ(whole)
			v.SetInt(-1)
			differ(whole)
		case reflect.Bool:
			v.SetBool(!v.Bool())
			differ(whole)
		}
		v.Set(before)
	}
	p := full()
	change(reflect.ValueOf(&p).Elem(), &p)
	if changes < 70 || !parse.Same(p, full()) {
		t.Errorf("%d changes, and back: %v", changes, p)
	}
}

// P13.3 and rule 4: a list that is nil and one that is empty are the same; whether they are writable is nothing to it.
func TestSameOfEmptyLists(t *testing.T) {
	for _, c := range []struct{ a, b api.Program }{
		{api.Program{}, api.Program{Kinds: []api.Kind{}}},
		{ofKind(api.Kind{}), ofKind(api.Kind{Cases: []api.Case{}, States: []api.State{}})},
		{ofRow(api.Row{}), ofRow(api.Row{Effects: []api.Effect{}})},
		{ofKind(api.Kind{States: []api.State{{}}}), ofKind(api.Kind{States: []api.State{{Rows: make([]api.Row, 0, 9)}}})},
		{ofEffects(api.Effect{Do: -1, Name: "Ä"}), ofEffects(api.Effect{Do: -1, Name: "Ä"})},
	} {
		if !parse.Same(c.a, c.b) || !parse.Same(c.b, c.a) {
			t.Errorf("not the same: %v, %v", c.a, c.b)
		}
	}
	if parse.Same(api.Program{}, ofKind(api.Kind{})) || parse.Same(ofKind(api.Kind{}), api.Program{}) {
		t.Error("no kind is the same as one of no name")
	}
	nils, empties := ofKind(api.Kind{Name: "a", Within: 1}), ofKind(api.Kind{Name: "a", Within: 1, Cases: []api.Case{}, States: []api.State{}})
	wantPrint(t, nils, "kind a { limit 0 in 1 ; }")
	wantPrint(t, empties, "kind a { limit 0 in 1 ; }")
	wantPrint(t, api.Program{Kinds: []api.Kind{}}, "")
	wantPrint(t, ofRow(api.Row{Effects: []api.Effect{}}), "kind a { limit 0 in 1 ; state s { any { } } }")
}

// shares tells whether two texts lie in one memory, at least in part.
func shares(a, b string) bool {
	if a == "" || b == "" {
		return false
	}
	atA, atB := uintptr(unsafe.Pointer(unsafe.StringData(a))), uintptr(unsafe.Pointer(unsafe.StringData(b)))
	return atA < atB+uintptr(len(b)) && atB < atA+uintptr(len(a))
}

// spoil changes all lists of a program, and what they have room for.
func spoil(p api.Program) {
	for _, k := range p.Kinds[:cap(p.Kinds)] {
		for _, s := range k.States[:cap(k.States)] {
			for _, r := range s.Rows[:cap(s.Rows)] {
				fill(r.Effects, api.Effect{Do: -9, Name: "spoilt"})
			}
			fill(s.Rows, api.Row{Tag: "spoilt"})
		}
		fill(k.Cases, api.Case{Reason: "spoilt"})
		fill(k.States, api.State{Name: "spoilt"})
	}
	fill(p.Kinds, api.Kind{Name: "spoilt"})
}

func fill[T any](list []T, with T) {
	list = list[:cap(list)]
	for i := range list {
		list[i] = with
	}
}

// Rule 5: no list of an answer shares its memory, or its spare room, with another one; nor do names with the text.
func TestAnswersAreNewMemory(t *testing.T) {
	text := "kind aa { limit 1 in 2; case bb stop; case bb stop; case bb stop; state cc { on dd { stop; stash; stop; } on ee 3 { send ff gg 3; stop; stop; } any { stop; } } state hh { } state ii { any { stop; } } } kind jj { else stop; state kk { any { fail ll; } } } kind mm { }"
	want, _ := parse.Program(text)
	want = clean(want)
	again, _ := parse.Program(text)
	first, _ := parse.Program(text)
	if e := first.Kinds[0].States[0].Rows[1].Effects[0]; shares(first.Kinds[0].Name, text) || shares(e.Ref, text) || shares(e.Name, text) || shares(e.Name, again.Kinds[0].States[0].Rows[1].Effects[0].Name) {
		t.Error("a name shares its memory")
	}
	spoil(first)
	if !same(again, want) {
		t.Errorf("another answer has become %v", again)
	}
	wantProgram(t, text, want)
	s := again.Kinds[0].States[0]
	for i := range s.Rows {
		rest := clean(again)
		fill(s.Rows[i].Effects, api.Effect{Do: -9})
		fill(rest.Kinds[0].States[0].Rows[i].Effects, api.Effect{Do: -9})
		if !same(again, rest) {
			t.Errorf("spoiling the effects of row %d has spoilt more: %v", i, again)
		}
	}
}

// Rule 5: what is handed in isn't changed, its spare room neither, nor kept.
func TestArgumentsAreLeft(t *testing.T) {
	build := func(name string) api.Program {
		effects := []api.Effect{{Do: 4}, {Do: 5}, {Do: 11, Name: name}}
		rows := []api.Row{{Tag: "x", Effects: effects[:2]}, {Tag: name}}
		states := []api.State{{Name: "s", Rows: rows[:1]}, {Name: name}}
		cases := []api.Case{{Do: 1}, {Reason: name, Do: 2}}
		kinds := []api.Kind{{Name: "a", Within: 1, Cases: cases[:1], States: states[:1]}, {Name: name}}
		return api.Program{Kinds: kinds[:1]}
	}
	p, q := build("spare"), build("other")
	text, code := parse.Print(p)
	if code != api.OK || !parse.Same(p, q) {
		t.Errorf("Print: %d; Same is false", code)
	}
	wholes := func(p api.Program) []any {
		k := p.Kinds[0]
		r := k.States[0].Rows
		return []any{p.Kinds[:2], k.Cases[:2], k.States[:2], r[:2], r[0].Effects[:3]}
	}
	if !reflect.DeepEqual(wholes(p), wholes(build("spare"))) || !reflect.DeepEqual(wholes(q), wholes(build("other"))) {
		t.Error("an argument was changed")
	}
	want := strings.Clone(text)
	spoil(p)
	if text != want {
		t.Errorf("the text has become %q", text)
	}
}

// Rule 6: what was asked before is nothing to what is asked now.
func TestAnswersHangOnNothingElse(t *testing.T) {
	for range 3 {
		wantFault(t, "kind a", api.ErrEnd, 6)
		wantUnwritable(t, ofKind(api.Kind{}), api.ErrArg)
		wantPrint(t, ofKind(api.Kind{Name: "a", Within: 1}), "kind a { limit 0 in 1 ; }")
		wantFault(t, "kind a { } {", api.ErrWord, 11)
	}
}
