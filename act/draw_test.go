package act_test

import (
	"math"
	"math/rand"

	"troupe/api"
)

// Few names and numbers, so that they meet often; none of them need be right.
var (
	someTags    = []string{"x", "y", "go", "", "X", "any"}
	someStates  = []string{"s", "t", "u", "", "x"}
	someNumbers = []int{0, 1, 2, 255, -1, 65535, math.MinInt, math.MaxInt}
)

func drawOne[T any](draw *rand.Rand, all []T) T { return all[draw.Intn(len(all))] }

// drawNumber is a small number mostly.
func drawNumber(draw *rand.Rand) int {
	if draw.Intn(3) > 0 {
		return draw.Intn(3)
	}
	return drawOne(draw, someNumbers)
}

// drawEffect has something in each field by chance, whether its Do has that field or not.
func drawEffect(draw *rand.Rand) api.Effect {
	e := api.Effect{Do: draw.Intn(15) - 1, Value: draw.Intn(5) - 1, N: drawNumber(draw)}
	if draw.Intn(8) == 0 {
		e.Do = drawOne(draw, someNumbers)
	}
	e.Name = drawOne(draw, someStates)
	if draw.Intn(2) == 0 {
		e.Ref, e.Slot, e.Delay = drawOne(draw, []string{"self", "a", "zz"}), drawOne(draw, []string{"a", "e"}), drawNumber(draw)
	}
	return e
}

func drawRow(draw *rand.Rand) api.Row {
	row := api.Row{Tag: drawOne(draw, someTags), Only: draw.Intn(2) == 0, N: drawNumber(draw)}
	if draw.Intn(3) > 0 {
		row.Tag = drawOne(draw, someTags[:3])
	}
	for range draw.Intn(7) {
		row.Effects = append(row.Effects, drawEffect(draw))
	}
	return row
}

// drawKind is a kind of any states, some of one name, with rows that often fit one message.
func drawKind(draw *rand.Rand) api.Kind {
	k := api.Kind{Name: drawOne(draw, someStates), Limit: drawNumber(draw), Within: drawNumber(draw)}
	for range draw.Intn(3) {
		k.Cases = append(k.Cases, api.Case{Reason: drawOne(draw, someTags), Do: draw.Intn(6)})
	}
	for range draw.Intn(6) {
		state := api.State{Name: drawOne(draw, someStates)}
		for range draw.Intn(9) {
			state.Rows = append(state.Rows, drawRow(draw))
		}
		k.States = append(k.States, state)
	}
	return k
}

// messages visits each of some messages in each of some states.
func messages(visit func(state, tag string, n int)) {
	for _, state := range append([]string{"nowhere"}, someStates...) {
		for _, tag := range append([]string{"z"}, someTags...) {
			for _, n := range someNumbers {
				visit(state, tag, n)
			}
		}
	}
}
