package check

import (
	"slices"

	"troupe/api"
	"troupe/lex"
)

// The parts of an effect.
const (
	partRef = 1 << iota
	partSlot
	partName
	partDelay
	partValue
)

// parts gathers which parts an effect has.
func parts(do int) int {
	has := 0
	switch do {
	case api.DoSend, api.DoTimer:
		has |= partValue
		fallthrough
	case api.DoSpawn, api.DoBecome, api.DoCancel, api.DoFail:
		has |= partName
	}
	switch do {
	case api.DoSend, api.DoWatch, api.DoUnwatch:
		has |= partRef
	case api.DoSpawn, api.DoHold:
		has |= partSlot
	case api.DoTimer:
		has |= partDelay
	}
	return has
}

// wellFormed tells whether an effect is one, with all its parts as they may be, and with nothing besides.
func wellFormed(e api.Effect) bool {
	has := parts(e.Do)
	fits := func(part int, right, zero bool) bool {
		if has&part != 0 {
			return right
		}
		return zero
	}
	return within(e.Do, api.DoSend, api.DoFail) &&
		fits(partRef, isReference(e.Ref), e.Ref == "") &&
		fits(partSlot, isSlot(e.Slot), e.Slot == "") &&
		fits(partName, lex.Name(e.Name), e.Name == "") &&
		fits(partDelay, within(e.Delay, 1, api.MaxDelay), e.Delay == 0) &&
		fits(partValue, isValue(e.Value, e.N), e.Value == 0 && e.N == 0)
}

func isReference(s string) bool {
	return isSlot(s) || slices.Contains([]string{"self", "sender", "parent"}, s)
}

func isSlot(s string) bool {
	return slices.Contains([]string{"a", "b", "c", "d"}, s)
}

// isValue tells whether a message may be given that number.
func isValue(value, n int) bool {
	return within(value, api.Keep, api.Const) && isNumber(n, value == api.Const)
}

// isNumber tells whether a number may stand there; where none is asked for only 0 may.
func isNumber(n int, asked bool) bool {
	return n == 0 || asked && within(n, 0, api.MaxNumber)
}
