package mercy_test

import (
	"math"
	"math/rand"
	"reflect"
	"testing"

	"troupe/api"
	"troupe/mercy"
	"troupe/parse"
)

func wantDirective(t *testing.T, cases []api.Case, reason string, want int) {
	t.Helper()
	if got := mercy.Directive(api.Kind{Cases: cases}, reason); got != want {
		t.Errorf("Directive of %q by %#v = %d, want %d", reason, cases, got, want)
	}
}

// plainDirective goes through the cases from behind, so that the first one that fits is the last one noted.
func plainDirective(cases []api.Case, reason string) int {
	named, other := -1, -1
	for i := len(cases) - 1; i >= 0; i-- {
		if cases[i].Reason == reason {
			named = i
		}
		if cases[i].Reason == "" {
			other = i
		}
	}
	if named >= 0 {
		return cases[named].Do
	}
	if other >= 0 {
		return cases[other].Do
	}
	return 3
}

// P16.1
func TestDirectivesAreThoseOfTheDocument(t *testing.T) {
	got := [4]int{api.Resume, api.Restart, api.Stop, api.Escalate}
	if want := [4]int{1, 2, 3, 4}; got != want {
		t.Errorf("the directives are %v, want %v", got, want)
	}
}

// P16.1: by a program's cases, wherever its else stands.
func TestDirectiveOfAProgram(t *testing.T) {
	p, err := parse.Program(`kind a { case boom restart; else escalate; case late resume; case end stop; state s { } }
		kind b { case boom resume; state s { } } kind c { else resume; state s { } } kind d { state s { } }`)
	if err != nil {
		t.Fatal(err)
	}
	for reason, want := range map[string][4]int{
		"boom": {api.Restart, api.Resume, api.Resume, api.Stop},
		"late": {api.Resume, api.Stop, api.Resume, api.Stop},
		"end":  {api.Stop, api.Stop, api.Resume, api.Stop},
		"x":    {api.Escalate, api.Stop, api.Resume, api.Stop},
		"":     {api.Escalate, api.Stop, api.Resume, api.Stop},
	} {
		for i, k := range p.Kinds {
			if got := mercy.Directive(k, reason); got != want[i] {
				t.Errorf("Directive(%s, %q) = %d, want %d", k.Name, reason, got, want[i])
			}
		}
	}
}

// P16.1 and rule 4: without cases all are stopped.
func TestDirectiveWithoutCases(t *testing.T) {
	for _, reason := range []string{"", "boom", "else", "\xff"} {
		wantDirective(t, nil, reason, 3)
		wantDirective(t, []api.Case{}, reason, 3)
		wantDirective(t, []api.Case{{Reason: "other", Do: 1}}, reason, 3)
	}
}

// P16.1: a reason is met by the very same text alone.
func TestDirectiveOfOddReasons(t *testing.T) {
	cases := []api.Case{{Reason: "A b", Do: 1}, {Reason: "\xff", Do: 2}, {Reason: "else", Do: 4}, {Reason: "boom", Do: 2}, {Reason: " ", Do: 1}}
	for reason, want := range map[string]int{
		"A b": 1, "\xff": 2, "else": 4, "boom": 2, " ": 1,
		"": 3, "a b": 3, "A": 3, "\xfe": 3, "Boom": 3, "boo": 3, "boom ": 3, "boomb": 3, "  ": 3, "\x00": 3, "stop": 3,
	} {
		wantDirective(t, cases, reason, want)
	}
}

// P16.1: what a case says is told as it is, be it a directive or not.
func TestDirectiveTellsAnyNumber(t *testing.T) {
	for _, do := range []int{0, 1, 2, 3, 4, 5, -1, 12, math.MinInt, math.MaxInt} {
		wantDirective(t, []api.Case{{Reason: "x", Do: do}}, "x", do)
		wantDirective(t, []api.Case{{Do: do}}, "x", do)
		wantDirective(t, []api.Case{{Do: do}}, "", do)
		wantDirective(t, []api.Case{{Do: 1}, {Reason: "x", Do: do}, {Reason: "x", Do: 2}}, "x", do)
	}
}

// P16.1: every list of up to five cases of three reasons, each saying something else.
func TestDirectiveOfAllLists(t *testing.T) {
	reasons := []string{"", "x", "y"}
	lists := [][]api.Case{nil}
	for size := 0; size <= 5; size++ {
		var longer [][]api.Case
		for _, cases := range lists {
			for _, reason := range append(reasons, "z") {
				wantDirective(t, cases, reason, plainDirective(cases, reason))
			}
			for _, reason := range reasons {
				longer = append(longer, append(cases[:size:size], api.Case{Reason: reason, Do: 10 + size}))
			}
		}
		lists = longer
	}
}

// P16.1: nothing but the cases counts, however many they are.
func TestDirectiveHangsOnTheCasesAlone(t *testing.T) {
	draw := rand.New(rand.NewSource(16))
	for range 500 {
		k := api.Kind{Name: "x", Limit: draw.Intn(3), Within: draw.Intn(3)}
		k.States = []api.State{{Name: "y", Rows: []api.Row{{Tag: "x", Effects: []api.Effect{{Do: api.DoFail, Name: "x"}}}}}}
		for range draw.Intn(40) {
			k.Cases = append(k.Cases, api.Case{Reason: string(rune('a' + draw.Intn(20))), Do: draw.Intn(6)})
			if draw.Intn(20) == 0 {
				k.Cases = append(k.Cases, api.Case{Do: draw.Intn(6)})
			}
		}
		for _, reason := range []string{"", "a", "b", "t", "x", "y", "z"} {
			if got, want := mercy.Directive(k, reason), plainDirective(k.Cases, reason); got != want {
				t.Fatalf("Directive(%+v, %q) = %d, want %d", k, reason, got, want)
			}
		}
	}
}

// Rule 5: what is handed in isn't changed, its spare room neither.
func TestDirectiveLeavesItsArgument(t *testing.T) {
	whole := func() []api.Case {
		return []api.Case{{Reason: "b", Do: 1}, {Do: 2}, {Reason: "a", Do: 4}, {Reason: "c", Do: 1}, {Reason: "x", Do: 9}}
	}
	cases := whole()
	for _, reason := range []string{"", "a", "b", "c", "x"} {
		wantDirective(t, cases[:3], reason, plainDirective(cases[:3], reason))
	}
	if !reflect.DeepEqual(cases, whole()) {
		t.Errorf("the cases have become %v", cases)
	}
}
