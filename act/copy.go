package act

import (
	"slices"

	"troupe/api"
)

// copyOfKind answers a kind none of whose lists lies in another one's memory.
func copyOfKind(k api.Kind) api.Kind {
	k.Cases = slices.Clone(k.Cases)
	k.States = copyOfEach(k.States, copyOfState)
	return k
}

func copyOfState(s api.State) api.State {
	s.Rows = copyOfEach(s.Rows, copyOfRow)
	return s
}

func copyOfRow(r api.Row) api.Row {
	r.Effects = slices.Clone(r.Effects)
	return r
}

// copyOfEach answers new memory with a copy of each item.
func copyOfEach[T any](items []T, copyOf func(item T) T) []T {
	var copies []T
	for _, item := range items {
		copies = append(copies, copyOf(item))
	}
	return copies
}
