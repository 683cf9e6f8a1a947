package check_test

import (
	"math"
	"math/rand"
	"reflect"
	"strconv"
	"strings"

	"troupe/api"
)

// drawName is one of a few names, among them some that mean something elsewhere, or any other one.
func drawName(draw *rand.Rand) string {
	return drawOne(draw, "a b x y go self sender boom keep any kind a_1 zzzzzzzzzzzzzzzz")
}

// drawNames are so many different ones.
func drawNames(draw *rand.Rand, many int) []string {
	var names []string
	for _, i := range draw.Perm(2 * many) {
		names = append(names, []string{"a", "s_", "kind", "z9"}[i%4]+strconv.Itoa(i))
	}
	return names[:many]
}

// drawCount is a number up to most, seldom a great one.
func drawCount(draw *rand.Rand, most int) int {
	if draw.Intn(5) == 0 {
		return draw.Intn(most + 1)
	}
	return draw.Intn(4)
}

func drawOne(draw *rand.Rand, words string) string {
	all := strings.Fields(words)
	return all[draw.Intn(len(all))]
}

// drawEffect is an effect that may be, though it may have to be the last one, or alone.
func drawEffect(draw *rand.Rand, p api.Program, k api.Kind) api.Effect {
	e := api.Effect{Do: 1 + draw.Intn(12)}
	for _, part := range strings.Fields(table[e.Do]) {
		switch part {
		case "Ref":
			e.Ref = drawOne(draw, "self sender parent a b c d")
		case "Slot":
			e.Slot = drawOne(draw, "a b c d")
		case "Name":
			e.Name = drawName(draw)
		case "Delay":
			e.Delay = []int{1, 4095, 1 + draw.Intn(4095)}[draw.Intn(3)]
		case "Value":
			e.Value = draw.Intn(3)
		}
	}
	if e.Value == api.Const {
		e.N = []int{0, 255, draw.Intn(256)}[draw.Intn(3)]
	}
	switch e.Do {
	case api.DoSpawn:
		e.Name = p.Kinds[draw.Intn(len(p.Kinds))].Name
	case api.DoBecome:
		e.Name = k.States[draw.Intn(len(k.States))].Name
	}
	return e
}

// drawEffects are those of a row: a stash alone, or others, of which only the last one may end.
func drawEffects(draw *rand.Rand, p api.Program, k api.Kind) []api.Effect {
	many := drawCount(draw, 8)
	var effects []api.Effect
	for len(effects) < many {
		e := drawEffect(draw, p, k)
		ends := e.Do == api.DoStop || e.Do == api.DoFail
		if (e.Do != api.DoStash || many == 1) && (!ends || len(effects) == many-1) {
			effects = append(effects, e)
		}
	}
	return effects
}

func drawRows(draw *rand.Rand, p api.Program, k api.Kind) []api.Row {
	var rows []api.Row
	for range drawCount(draw, 16) {
		row := api.Row{Effects: drawEffects(draw, p, k)}
		if draw.Intn(5) > 0 {
			row.Tag = drawName(draw)
			row.Only = draw.Intn(2) == 0
		}
		if row.Only {
			row.N = []int{0, 1, 255, draw.Intn(256)}[draw.Intn(4)]
		}
		if !taken(rows, row) {
			rows = append(rows, row)
		}
	}
	return rows
}

// taken tells whether there is a row for the same already.
func taken(rows []api.Row, row api.Row) bool {
	for _, r := range rows {
		if r.Tag == row.Tag && r.Only == row.Only && r.N == row.N {
			return true
		}
	}
	return false
}

func drawCases(draw *rand.Rand) []api.Case {
	reasons := append(drawNames(draw, 8), "")
	draw.Shuffle(len(reasons), func(i, j int) { reasons[i], reasons[j] = reasons[j], reasons[i] })
	var cases []api.Case
	for _, reason := range reasons[:drawCount(draw, 8)] {
		cases = append(cases, api.Case{Reason: reason, Do: 1 + draw.Intn(4)})
	}
	return cases
}

// drawRight is a program that is right.
func drawRight(draw *rand.Rand) api.Program {
	var p api.Program
	for _, name := range drawNames(draw, 1+drawCount(draw, 7)) {
		k := api.Kind{Name: name, Limit: []int{0, 100, draw.Intn(101)}[draw.Intn(3)], Within: []int{1, 4095, 1 + draw.Intn(4095)}[draw.Intn(3)], Cases: drawCases(draw)}
		for _, name := range drawNames(draw, 1+drawCount(draw, 7)) {
			k.States = append(k.States, api.State{Name: name})
		}
		p.Kinds = append(p.Kinds, k)
	}
	for _, k := range p.Kinds {
		for i := range k.States {
			k.States[i].Rows = drawRows(draw, p, k)
		}
	}
	return p
}

// spoil goes down into a program by chance, and changes what it comes to; that needn't be wrong.
func spoil(draw *rand.Rand, v reflect.Value) {
	switch v.Kind() {
	case reflect.Struct:
		if v.Type() == reflect.TypeOf(api.Effect{}) {
			spoilEffect(draw, v)
		} else if draw.Intn(3) == 0 {
			spoil(draw, v.Field(draw.Intn(v.NumField())))
		} else {
			spoil(draw, v.Field(v.NumField()-1)) // what is within
		}
	case reflect.Slice:
		if v.Len() == 0 || draw.Intn(6) == 0 {
			spoilList(draw, v)
		} else {
			spoil(draw, v.Index(draw.Intn(v.Len())))
		}
	case reflect.Int:
		v.SetInt([]int64{-1, 0, 1, 2, 3, 4, 5, 11, 12, 13, 100, 101, 255, 256, 4095, 4096, 65535, math.MinInt64, math.MaxInt64}[draw.Intn(19)])
	case reflect.String:
		v.SetString([]string{"", "a", "d", "e", "self", "x", "zzzzzzzzzzzzzzzz", "zzzzzzzzzzzzzzzzz", "A", "_", "7", "a b", "é"}[draw.Intn(13)])
	case reflect.Bool:
		v.SetBool(!v.Bool())
	}
}

// spoilEffect changes something in an effect, or puts one in its place that is alone or the last one, where it may be.
func spoilEffect(draw *rand.Rand, effect reflect.Value) {
	instead := []api.Effect{{Do: api.DoStash}, {Do: api.DoStop}, {Do: api.DoFail, Name: "x"}}
	if which := draw.Intn(12); which < len(instead) {
		effect.Set(reflect.ValueOf(instead[which]))
		return
	}
	spoil(draw, effect.Field(draw.Intn(effect.NumField())))
}

// spoilList puts an item of a list behind it, once or often, or into another one's place, or takes some out.
func spoilList(draw *rand.Rand, list reflect.Value) {
	if list.Len() == 0 {
		list.Set(reflect.Append(list, reflect.Zero(list.Type().Elem())))
		return
	}
	item := reflect.New(list.Type().Elem()).Elem()
	item.Set(list.Index(draw.Intn(list.Len())))
	more := []int{1, 5, 16}[draw.Intn(3)]
	switch draw.Intn(4) {
	case 0:
		list.Index(draw.Intn(list.Len())).Set(item)
	case 1:
		list.Set(list.Slice(1, list.Len()))
	case 2:
		list.Set(list.Slice(0, draw.Intn(list.Len())))
	case 3:
		for range more {
			list.Set(reflect.Append(list, item))
		}
	}
}
