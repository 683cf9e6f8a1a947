package parse

import (
	"slices"

	"troupe/api"
	"troupe/lex"
)

// reader goes through a text's tokens; what can't stand where it stands is thrown, and caught at the face.
type reader struct {
	tokens []api.Token // those that are still to come
	end    int         // the text's length: the place of what is missing
}

// next answers the token that comes next, one of no kind at the text's end.
func (r *reader) next() api.Token {
	if len(r.tokens) == 0 {
		return api.Token{At: r.end}
	}
	return r.tokens[0]
}

// refuse throws what comes next.
func (r *reader) refuse() {
	fault := &lex.Fault{Code: api.ErrWord, At: r.next().At}
	if len(r.tokens) == 0 {
		fault.Code = api.ErrEnd
	}
	panic(fault)
}

// take takes a token of that kind.
func (r *reader) take(kind int) api.Token {
	token := r.next()
	if token.Kind != kind {
		r.refuse()
	}
	r.tokens = r.tokens[1:]
	return token
}

func (r *reader) name() string { return r.take(api.TName).Text }

func (r *reader) number() int { return r.take(api.TNumber).N }

// comes tells whether one of these words comes next.
func (r *reader) comes(words ...string) bool {
	return slices.Contains(words, r.next().Text)
}

// choose takes one of these words, and tells which one.
func (r *reader) choose(words ...string) int {
	which := slices.Index(words, r.next().Text)
	if which < 0 {
		r.refuse()
	}
	r.tokens = r.tokens[1:]
	return which
}

// pass takes just that word.
func (r *reader) pass(word string) { r.choose(word) }

// block takes items up to the brace behind them.
func block[T any](r *reader, item func() T) []T {
	var items []T
	r.pass("{")
	for !r.comes("}") {
		items = append(items, item())
	}
	r.pass("}")
	return items
}

func (r *reader) program() api.Program {
	var p api.Program
	for len(r.tokens) > 0 {
		p.Kinds = append(p.Kinds, r.kind())
	}
	return p
}

func (r *reader) kind() api.Kind {
	r.pass("kind")
	k := api.Kind{Name: r.name()}
	r.pass("{")
	k.Limit, k.Within = r.limit()
	for r.comes("case", "else") {
		k.Cases = append(k.Cases, r.oneCase())
	}
	for !r.comes("}") {
		k.States = append(k.States, r.state())
	}
	r.pass("}")
	return k
}

// limit reads how many restarts within how many ticks, which needn't be said.
func (r *reader) limit() (limit, within int) {
	if !r.comes("limit") {
		return 0, 1
	}
	r.pass("limit")
	limit = r.number()
	r.pass("in")
	within = r.number()
	r.pass(";")
	return limit, within
}

func (r *reader) oneCase() api.Case {
	var c api.Case
	if r.choose("case", "else") == 0 {
		c.Reason = r.name()
	}
	c.Do = api.Resume + r.choose(directives()...)
	r.pass(";")
	return c
}

func (r *reader) state() api.State {
	r.pass("state")
	return api.State{Name: r.name(), Rows: block(r, r.row)}
}

func (r *reader) row() api.Row {
	var row api.Row
	if r.choose("on", "any") == 0 {
		row.Tag = r.name()
		row.Only = r.next().Kind == api.TNumber
	}
	if row.Only {
		row.N = r.number()
	}
	row.Effects = block(r, r.effect)
	return row
}

func (r *reader) effect() api.Effect {
	e := api.Effect{Do: api.DoSend + r.choose(effects()...)}
	for _, part := range parts(e.Do) {
		switch part {
		case partRef:
			e.Ref = r.name()
		case partSlot:
			e.Slot = r.name()
		case partName:
			e.Name = r.name()
		case partDelay:
			e.Delay = r.number()
		case partValue:
			e.Value, e.N = r.value()
		}
	}
	r.pass(";")
	return e
}

// value reads what a message is given, and its number, if it is one.
func (r *reader) value() (value, n int) {
	if r.next().Kind == api.TNumber {
		return api.Const, r.number()
	}
	return api.Keep + r.choose(values()...), 0
}
