package check

import (
	"slices"

	"troupe/api"
	"troupe/lex"
)

const mostRestarts = 100 // the greatest limit of a kind

// view is a program, and what of it one looks at.
type view struct {
	program api.Program
	kind    api.Kind
	state   api.State
	row     api.Row
}

func (v view) whole() *Bad {
	return first(
		unless(api.ErrCount, func() bool { return within(len(v.program.Kinds), 1, api.MaxKinds) }),
		each(len(v.program.Kinds), v.ofKind),
	)
}

func (v view) ofKind(at int) *Bad {
	v.kind = v.program.Kinds[at]
	return first(
		unless(api.ErrRange, v.kindInRange),
		unless(api.ErrTwice, func() bool { return isNew(v.program.Kinds, at, kindName) }),
		unless(api.ErrCount, func() bool {
			return len(v.kind.Cases) <= api.MaxCases && within(len(v.kind.States), 1, api.MaxStates)
		}),
		unless(api.ErrRange, v.casesInRange),
		unless(api.ErrTwice, v.eachReasonOnce),
		each(len(v.kind.States), v.ofState),
	)
}

func (v view) ofState(at int) *Bad {
	v.state = v.kind.States[at]
	return first(
		unless(api.ErrRange, func() bool { return lex.Name(v.state.Name) }),
		unless(api.ErrTwice, func() bool { return isNew(v.kind.States, at, stateName) }),
		unless(api.ErrCount, func() bool { return len(v.state.Rows) <= api.MaxRows }),
		each(len(v.state.Rows), v.ofRow),
	)
}

func (v view) ofRow(at int) *Bad {
	v.row = v.state.Rows[at]
	return first(
		unless(api.ErrRange, v.rowInRange),
		unless(api.ErrTwice, func() bool { return isNew(v.state.Rows, at, headOf) }),
		unless(api.ErrCount, func() bool { return len(v.row.Effects) <= api.MaxEffects }),
		unless(api.ErrAlone, v.stashAlone),
		each(len(v.row.Effects), v.ofEffect),
	)
}

func (v view) ofEffect(at int) *Bad {
	e := v.row.Effects[at]
	return first(
		unless(api.ErrRange, func() bool { return wellFormed(e) }),
		unless(api.ErrMissing, func() bool { return v.isThere(e) }),
		unless(api.ErrLast, func() bool { return at == len(v.row.Effects)-1 || e.Do != api.DoStop && e.Do != api.DoFail }),
	)
}

func kindName(k api.Kind) string { return k.Name }

func stateName(s api.State) string { return s.Name }

func reasonOf(c api.Case) string { return c.Reason }

// head is when a row is taken.
type head struct {
	tag  string
	only bool
	n    int
}

func headOf(r api.Row) head { return head{r.Tag, r.Only, r.N} }

func (v view) kindInRange() bool {
	k := v.kind
	return lex.Name(k.Name) && within(k.Limit, 0, mostRestarts) && within(k.Within, 1, api.MaxDelay)
}

func (v view) casesInRange() bool {
	for _, c := range v.kind.Cases {
		if c.Reason != "" && !lex.Name(c.Reason) || !within(c.Do, api.Resume, api.Escalate) {
			return false
		}
	}
	return true
}

func (v view) eachReasonOnce() bool {
	for at := range v.kind.Cases {
		if !isNew(v.kind.Cases, at, reasonOf) {
			return false
		}
	}
	return true
}

func (v view) rowInRange() bool {
	r := v.row
	return (lex.Name(r.Tag) || r.Tag == "" && !r.Only) && isNumber(r.N, r.Only)
}

func (v view) stashAlone() bool {
	stashes := func(e api.Effect) bool { return e.Do == api.DoStash }
	return len(v.row.Effects) == 1 || !slices.ContainsFunc(v.row.Effects, stashes)
}

// isThere tells whether the kind or the state that an effect speaks of is.
func (v view) isThere(e api.Effect) bool {
	switch e.Do {
	case api.DoSpawn:
		return holds(v.program.Kinds, kindName, e.Name)
	case api.DoBecome:
		return holds(v.kind.States, stateName, e.Name)
	}
	return true
}
