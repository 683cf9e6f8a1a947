package check_test

import (
	"reflect"
	"slices"
	"strings"

	"troupe/api"
	"troupe/lex"
)

// fault is one thing that is wrong: its number, its place, and which of its place's rules it breaks, in the chapter's order.
type fault struct {
	code  api.Errno
	where []int
	rule  int
}

// plain gathers all that is wrong with a program.
type plain struct {
	program api.Program
	faults  []fault
	where   []int // at which one looks
	rule    int
}

// at turns to a place.
func (p *plain) at(where ...int) { p.where, p.rule = where, 0 }

// wrong goes on to the next rule of a place, and notes whether it is broken.
func (p *plain) wrong(is bool, code api.Errno) {
	p.rule++
	if is {
		p.faults = append(p.faults, fault{code, p.where, p.rule})
	}
}

// plainly answers what is wrong first, OK if nothing is.
func plainly(program api.Program) (api.Errno, []int) {
	p := &plain{program: program}
	p.at()
	p.wrong(len(program.Kinds) < 1 || len(program.Kinds) > 8, api.ErrCount)
	for i := range program.Kinds {
		p.kind(i)
	}
	if len(p.faults) == 0 {
		return api.OK, nil
	}
	least := slices.MinFunc(p.faults, func(a, b fault) int {
		if by := slices.Compare(a.where, b.where); by != 0 {
			return by
		}
		return a.rule - b.rule
	})
	return least.code, least.where
}

func (p *plain) kind(i int) {
	k := p.program.Kinds[i]
	twice, wrongCase, sameReason := false, false, false
	for _, ahead := range p.program.Kinds[:i] {
		twice = twice || ahead.Name == k.Name
	}
	reasons := map[string]int{}
	for _, c := range k.Cases {
		reasons[c.Reason]++
		sameReason = sameReason || reasons[c.Reason] > 1
		wrongCase = wrongCase || c.Reason != "" && !lex.Name(c.Reason) || c.Do < 1 || c.Do > 4
	}
	p.at(i + 1)
	p.wrong(!lex.Name(k.Name) || k.Limit < 0 || k.Limit > 100 || k.Within < 1 || k.Within > 4095, api.ErrRange)
	p.wrong(twice, api.ErrTwice)
	p.wrong(len(k.Cases) > 8 || len(k.States) == 0 || len(k.States) > 8, api.ErrCount)
	p.wrong(wrongCase, api.ErrRange)
	p.wrong(sameReason, api.ErrTwice)
	for j := range k.States {
		p.state(k, i, j)
	}
}

func (p *plain) state(k api.Kind, i, j int) {
	s := k.States[j]
	twice := false
	for _, ahead := range k.States[:j] {
		twice = twice || ahead.Name == s.Name
	}
	p.at(i+1, j+1)
	p.wrong(!lex.Name(s.Name), api.ErrRange)
	p.wrong(twice, api.ErrTwice)
	p.wrong(len(s.Rows) > 16, api.ErrCount)
	for r := range s.Rows {
		p.row(k, s, []int{i + 1, j + 1, r + 1})
	}
}

func (p *plain) row(k api.Kind, s api.State, where []int) {
	at := where[2] - 1
	row := s.Rows[at]
	twice, stashes := false, 0
	for _, ahead := range s.Rows[:at] {
		twice = twice || ahead.Tag == row.Tag && ahead.Only == row.Only && ahead.N == row.N
	}
	for _, e := range row.Effects {
		if e.Do == 4 {
			stashes++
		}
	}
	p.at(where...)
	p.wrong(row.Tag != "" && !lex.Name(row.Tag) || row.Only && row.Tag == "" || row.N < 0 || row.N > 255 || !row.Only && row.N != 0, api.ErrRange)
	p.wrong(twice, api.ErrTwice)
	p.wrong(len(row.Effects) > 8, api.ErrCount)
	p.wrong(stashes > 0 && len(row.Effects) > 1, api.ErrAlone)
	for i, e := range row.Effects {
		p.at(append(slices.Clone(where), i+1)...)
		p.wrong(!effectMayBe(e), api.ErrRange)
		p.wrong(e.Do == 2 && !slices.Contains(names(p.program.Kinds), e.Name) || e.Do == 3 && !slices.Contains(names(k.States), e.Name), api.ErrMissing)
		p.wrong((e.Do == 11 || e.Do == 12) && i+1 < len(row.Effects), api.ErrLast)
	}
}

// names are those of kinds or of states.
func names(list any) []string {
	var all []string
	for i := range reflect.ValueOf(list).Len() {
		all = append(all, reflect.ValueOf(list).Index(i).FieldByName("Name").String())
	}
	return all
}

// table is the chapter's, of what effects have (chapter 13), from send 1 to fail 12; N belongs to Value.
var table = []string{1: "Ref Name Value N", 2: "Slot Name", 3: "Name", 4: "", 5: "", 6: "Ref", 7: "Ref", 8: "Delay Name Value N", 9: "Name", 10: "Slot", 11: "", 12: "Name"}

// effectMayBe holds each field of an effect against the table, and against what may stand in it.
func effectMayBe(e api.Effect) bool {
	if e.Do < 1 || e.Do > 12 {
		return false
	}
	may := map[string]bool{
		"Ref":   slices.Contains(strings.Fields("self sender parent a b c d"), e.Ref),
		"Slot":  slices.Contains(strings.Fields("a b c d"), e.Slot),
		"Name":  lex.Name(e.Name),
		"Delay": e.Delay > 0 && e.Delay < 4096,
		"Value": e.Value == 0 || e.Value == 1 || e.Value == 2,
		"N":     e.N == 0 || e.Value == 2 && e.N > 0 && e.N < 256,
	}
	fields := reflect.ValueOf(e)
	for name, right := range may {
		if slices.Contains(strings.Fields(table[e.Do]), name) && !right {
			return false
		}
		if !slices.Contains(strings.Fields(table[e.Do]), name) && !fields.FieldByName(name).IsZero() {
			return false
		}
	}
	return true
}
