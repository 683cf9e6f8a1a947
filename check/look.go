package check

import (
	"slices"

	"troupe/api"
)

// look is one look for something that is wrong: nil, if there is nothing.
type look func() *Bad

// first answers what the first of these looks finds; those behind it aren't taken any more.
func first(looks ...look) *Bad {
	for _, find := range looks {
		if bad := find(); bad != nil {
			return bad
		}
	}
	return nil
}

// unless finds a fault of that number, but where something is right.
func unless(code api.Errno, right func() bool) look {
	return func() *Bad {
		if right() {
			return nil
		}
		return &Bad{Code: code}
	}
}

// each looks at so many items, in order; the number of the one in which something is wrong leads the place.
func each(items int, find func(at int) *Bad) look {
	return func() *Bad {
		for at := range items {
			if bad := find(at); bad != nil {
				bad.Where = slices.Insert(bad.Where, 0, at+1)
				return bad
			}
		}
		return nil
	}
}

// holds tells whether one of these items has that key.
func holds[T any, K comparable](items []T, keyOf func(item T) K, key K) bool {
	return slices.ContainsFunc(items, func(item T) bool { return keyOf(item) == key })
}

// isNew tells whether no item ahead of one has its key.
func isNew[T any, K comparable](items []T, at int, keyOf func(item T) K) bool {
	return !holds(items[:at], keyOf, keyOf(items[at]))
}

func within(n, least, most int) bool { return least <= n && n <= most }
