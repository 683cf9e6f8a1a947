package parse

import (
	"strconv"
	"strings"

	"troupe/api"
	"troupe/lex"
)

// writer writes a program's words, and notes why they can't stand as its text.
type writer struct {
	text strings.Builder
	err  error
}

// refuse notes that the program isn't writable; that counts ahead of its being too long.
func (w *writer) refuse() { w.err = api.ErrArg }

// put writes words, with a blank between each two, as long as there is nothing against them.
func (w *writer) put(words ...string) {
	for _, word := range words {
		if w.err != nil {
			return
		}
		if w.text.Len() > 0 {
			word = " " + word
		}
		if w.text.Len()+len(word) > api.MaxText {
			w.err = &lex.Fault{Code: api.ErrLong, At: api.MaxText}
			return
		}
		w.text.WriteString(word)
	}
}

func (w *writer) name(s string) string {
	if !lex.Name(s) {
		w.refuse()
	}
	return s
}

func (w *writer) number(n int) string {
	if n < 0 || n > maxNumber {
		w.refuse()
	}
	return strconv.Itoa(n)
}

// pick answers one of these words.
func (w *writer) pick(which int, words ...string) string {
	if which < 0 || which >= len(words) {
		w.refuse()
		return ""
	}
	return words[which]
}

func (w *writer) program(p api.Program) {
	for _, k := range p.Kinds {
		w.kind(k)
	}
}

func (w *writer) kind(k api.Kind) {
	w.put("kind", w.name(k.Name), "{", "limit", w.number(k.Limit), "in", w.number(k.Within), ";")
	for _, c := range k.Cases {
		w.oneCase(c)
	}
	for _, s := range k.States {
		w.state(s)
	}
	w.put("}")
}

func (w *writer) oneCase(c api.Case) {
	if c.Reason == "" {
		w.put("else")
	} else {
		w.put("case", w.name(c.Reason))
	}
	w.put(w.pick(c.Do-api.Resume, directives()...), ";")
}

func (w *writer) state(s api.State) {
	w.put("state", w.name(s.Name), "{")
	for _, row := range s.Rows {
		w.row(row)
	}
	w.put("}")
}

func (w *writer) row(row api.Row) {
	w.head(row)
	w.put("{")
	for _, e := range row.Effects {
		w.effect(e)
	}
	w.put("}")
}

// head writes when a row is taken.
func (w *writer) head(row api.Row) {
	switch {
	case row.Only:
		w.put("on", w.name(row.Tag), w.number(row.N))
	case row.N != 0:
		w.refuse()
	case row.Tag == "":
		w.put("any")
	default:
		w.put("on", w.name(row.Tag))
	}
}

// effect writes an effect's word and its parts; a field that is none of them must be zero.
func (w *writer) effect(e api.Effect) {
	w.put(w.pick(e.Do-api.DoSend, effects()...))
	others := e
	others.Do = 0
	for _, part := range parts(e.Do) {
		switch part {
		case partRef:
			w.put(w.name(e.Ref))
			others.Ref = ""
		case partSlot:
			w.put(w.name(e.Slot))
			others.Slot = ""
		case partName:
			w.put(w.name(e.Name))
			others.Name = ""
		case partDelay:
			w.put(w.number(e.Delay))
			others.Delay = 0
		case partValue:
			w.put(w.value(e.Value, e.N))
			others.Value, others.N = 0, 0
		}
	}
	if others != (api.Effect{}) {
		w.refuse()
	}
	w.put(";")
}

// value answers the word of what a message is given.
func (w *writer) value(value, n int) string {
	if value == api.Const {
		return w.number(n)
	}
	if n != 0 {
		w.refuse()
	}
	return w.pick(value-api.Keep, values()...)
}
