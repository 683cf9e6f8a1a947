package act_test

import (
	"math/rand"
	"reflect"
	"testing"

	"troupe/act"
	"troupe/api"
)

// roomy is a program each of whose lists has spare room, with something in it, and holds one item twice.
func roomy() api.Program {
	effects := []api.Effect{{Do: api.DoSend, Ref: "a", Name: "y", Value: api.Less}, {Do: api.DoUnstash}, {Do: api.DoHold, Slot: "c"}}
	rows := []api.Row{{Tag: "x", Effects: effects[:2]}, {Tag: "y", Effects: effects[:2]}, {Tag: "spare", Effects: effects}}
	states := []api.State{{Name: "s", Rows: rows[:2]}, {Name: "t", Rows: rows[:2]}, {Name: "spare", Rows: rows}}
	cases := []api.Case{{Reason: "f", Do: 1}, {Do: 2}, {Reason: "spare", Do: 3}}
	kinds := []api.Kind{{Name: "k", Cases: cases[:2], States: states[:2]}, {Name: "l", Cases: cases[:2], States: states[:2]}, {Name: "spare"}}
	return api.Program{Kinds: kinds[:2]}
}

// spoil writes over all that a value's lists have room for.
func spoil(v reflect.Value) {
	switch v.Kind() {
	case reflect.Struct:
		for i := range v.NumField() {
			spoil(v.Field(i))
		}
	case reflect.Slice:
		if v.CanSet() {
			v.Set(v.Slice(0, v.Cap()))
		}
		for i := range v.Len() {
			spoil(v.Index(i))
		}
	case reflect.Int:
		v.SetInt(66)
	case reflect.String:
		v.SetString("spoilt")
	case reflect.Bool:
		v.SetBool(!v.Bool())
	}
}

// answers are what the calls answer of a program that have lists in them.
func answers(p api.Program) (all struct {
	Kind api.Kind
	Row  api.Row
	Plan api.Plan
}) {
	all.Kind, _ = act.Find(p, "k")
	all.Row, _ = act.Row(p.Kinds[0], "s", "x", 5)
	all.Plan = act.Do(p.Kinds[0], "s", "x", 5)
	return all
}

// wholeOf are all items of a program's lists, those in their spare room too.
func wholeOf(p api.Program) []any {
	k := p.Kinds[0]
	rows := k.States[0].Rows
	return []any{p.Kinds[:3], k.Cases[:3], k.States[:3], rows[:3], rows[0].Effects[:3]}
}

// Rule 5: what is handed in isn't changed, its spare room neither.
func TestArgumentsAreLeft(t *testing.T) {
	p := roomy()
	answers(p)
	slots := []int{7, 8, 9}
	act.Who("b", 1, 2, 3, slots[:2])
	if !reflect.DeepEqual(wholeOf(p), wholeOf(roomy())) || !reflect.DeepEqual(slots, []int{7, 8, 9}) {
		t.Errorf("an argument was changed: %+v, %v", p, slots)
	}
}

// Rule 5: an answer shares no memory, its spare room neither, with an argument or another answer.
func TestAnswersAreNewMemory(t *testing.T) {
	p := roomy()
	spoilt, other, want := answers(p), answers(p), answers(roomy())
	spoil(reflect.ValueOf(&spoilt).Elem())
	if !reflect.DeepEqual(wholeOf(p), wholeOf(roomy())) {
		t.Errorf("an argument was changed by its answer: %+v", p)
	}
	if !reflect.DeepEqual(other, want) {
		t.Errorf("an answer was changed by another one: %+v, want %+v", other, want)
	}
	spoil(reflect.ValueOf(&p).Elem())
	if !reflect.DeepEqual(other, want) {
		t.Errorf("an answer was changed by its argument: %+v, want %+v", other, want)
	}
}

// Rule 5: no two lists of one kind that is answered share memory, though those that were handed in do.
func TestListsOfAKindAreApart(t *testing.T) {
	k, _ := act.Find(roomy(), "k")
	want, _ := act.Find(roomy(), "k")
	spoil(reflect.ValueOf(&k.States[0].Rows[0].Effects).Elem())
	for _, pair := range [][2]api.Row{
		{k.States[0].Rows[1], want.States[0].Rows[1]},
		{k.States[1].Rows[0], want.States[1].Rows[0]},
		{k.States[1].Rows[1], want.States[1].Rows[1]},
	} {
		if !sameRow(pair[0], pair[1]) {
			t.Errorf("a row's effects were changed with another one's: %+v, want %+v", pair[0], pair[1])
		}
	}
	spoil(reflect.ValueOf(&k.States[0].Rows).Elem())
	if !reflect.DeepEqual(k.States[1], want.States[1]) {
		t.Errorf("a state's rows were changed with another one's: %+v, want %+v", k.States[1], want.States[1])
	}
}

// Rule 4: a list that is nil and one that is empty are the same.
func TestEmptyLists(t *testing.T) {
	for _, k := range []api.Kind{
		{Name: "k", Cases: []api.Case{}, States: []api.State{}},
		{Name: "k", States: []api.State{{Name: "s", Rows: []api.Row{}}}},
		{Name: "k", States: []api.State{{Name: "t"}, {Name: "s"}}},
	} {
		if got, ok := act.Find(api.Program{Kinds: []api.Kind{k}}, "k"); !ok || len(got.Cases) > 0 || len(got.States) != len(k.States) {
			t.Errorf("Find = %+v, %v", got, ok)
		}
		wantRow(t, k, "s", "x", 0, 0, 0)
		wantPlan(t, k, "s", "x", 0, api.Plan{State: "s"})
	}
	k := api.Kind{States: []api.State{{Name: "s", Rows: []api.Row{{Effects: []api.Effect{}}}}}}
	wantRow(t, k, "s", "x", 0, 1, 1)
	wantPlan(t, k, "s", "x", 0, api.Plan{State: "s"})
	wantWho(t, "a", []int{}, 0)
}

// Rule 6: what was asked before is nothing to what is asked now.
func TestAnswersHangOnNothingElse(t *testing.T) {
	k := drawKind(rand.New(rand.NewSource(5)))
	for range 3 {
		messages(func(state, tag string, n int) { wantPlan(t, k, state, tag, n, plainPlan(k, state, tag, n)) })
		if at, ok := act.Slot("d"); at != 3 || !ok {
			t.Errorf("Slot(d) = %d, %v", at, ok)
		}
		if at, ok := act.Slot("e"); at != 0 || ok {
			t.Errorf("Slot(e) = %d, %v", at, ok)
		}
	}
}
