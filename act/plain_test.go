package act_test

import (
	"slices"

	"troupe/api"
)

// plainRow goes through all states and rows, and notes the first ones by flags alone.
func plainRow(k api.Kind, state, tag string, n int) (row api.Row, ok bool) {
	seen := false
	for _, s := range k.States {
		if seen || s.Name != state {
			continue
		}
		seen = true
		for i := len(s.Rows) - 1; i >= 0; i-- {
			if fits(s.Rows[i], tag, n) {
				row, ok = s.Rows[i], true
			}
		}
	}
	return row, ok
}

// fits is the chapter's word.
func fits(r api.Row, tag string, n int) bool {
	if r.Tag == "" {
		return true
	}
	if r.Tag != tag {
		return false
	}
	return !r.Only || n == r.N
}

// plainNumber is P15.2, for a message's number n.
func plainNumber(e api.Effect, n int) int {
	below := n - 1
	if n <= 0 {
		below = 0
	}
	if e.Value == 0 {
		return n
	} else if e.Value == 1 {
		return below
	}
	return e.N
}

// plainPlan cuts a row's effects where they end, and tells each part of the plan by itself.
func plainPlan(k api.Kind, state, tag string, n int) api.Plan {
	plan := api.Plan{State: state}
	row, _ := plainRow(k, state, tag, n)
	effects := slices.Clone(row.Effects)
	if len(effects) > 0 && effects[0].Do == 4 {
		plan.Stash = true
		return plan
	}
	ends := slices.IndexFunc(effects, func(e api.Effect) bool { return e.Do == 11 || e.Do == 12 })
	if ends >= 0 {
		last := effects[ends]
		plan.Stop = last.Do == 11
		if last.Do == 12 {
			plan.Fail = last.Name
		}
		effects = effects[:ends]
	}
	for _, e := range slices.Backward(effects) {
		if e.Do == 3 {
			plan.State = e.Name
			break
		}
	}
	for i := range effects {
		if effects[i].Do == 1 || effects[i].Do == 8 {
			effects[i].N = plainNumber(effects[i], n)
			effects[i].Value = 2
		}
	}
	plan.Effects = slices.DeleteFunc(effects, func(e api.Effect) bool { return e.Do == 3 || e.Do == 4 })
	return plan
}
