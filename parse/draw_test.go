package parse_test

import (
	"math/rand"
	"reflect"
	"strconv"
	"strings"

	"troupe/api"
	"troupe/lex"
)

func drawName(draw *rand.Rand) string {
	const letters = "abcdefghijklmnopqrstuvwxyz0123456789_"
	if draw.Intn(3) == 0 {
		return tokensToTry[6+draw.Intn(len(tokensToTry)-6)]
	}
	name := []byte{letters[draw.Intn(26)]}
	for range draw.Intn(16) {
		name = append(name, letters[draw.Intn(len(letters))])
	}
	return string(name)
}

func drawNumber(draw *rand.Rand) int {
	return []int{0, 1, 65535, draw.Intn(65536)}[draw.Intn(4)]
}

func drawEffect(draw *rand.Rand) api.Effect {
	e := eachEffect[draw.Intn(len(eachEffect))].effect
	for _, field := range fieldsOf(&e) {
		if field.Kind() == reflect.String && field.String() != "" {
			field.SetString(drawName(draw))
		}
	}
	if e.Do == api.DoTimer {
		e.Delay = drawNumber(draw)
	}
	if e.Value == api.Const {
		e.N = drawNumber(draw)
	}
	return e
}

func drawRow(draw *rand.Rand) api.Row {
	var row api.Row
	if draw.Intn(4) > 0 {
		row.Tag = drawName(draw)
		if row.Only = draw.Intn(2) == 0; row.Only {
			row.N = drawNumber(draw)
		}
	}
	for range draw.Intn(5) {
		row.Effects = append(row.Effects, drawEffect(draw))
	}
	return row
}

func drawKind(draw *rand.Rand) api.Kind {
	k := api.Kind{Name: drawName(draw), Within: 1}
	if draw.Intn(2) == 0 {
		k.Limit, k.Within = drawNumber(draw), drawNumber(draw)
	}
	for range draw.Intn(4) {
		c := api.Case{Do: 1 + draw.Intn(4)}
		if draw.Intn(3) > 0 {
			c.Reason = drawName(draw)
		}
		k.Cases = append(k.Cases, c)
	}
	for range draw.Intn(4) {
		state := api.State{Name: drawName(draw)}
		for range draw.Intn(5) {
			state.Rows = append(state.Rows, drawRow(draw))
		}
		k.States = append(k.States, state)
	}
	return k
}

// drawProgram is a writable program whose text isn't too long.
func drawProgram(draw *rand.Rand) api.Program {
	var p api.Program
	for range draw.Intn(4) {
		p.Kinds = append(p.Kinds, drawKind(draw))
	}
	return p
}

// words are the tokens of a program's text, as the form tells them.
func words(p api.Program) []string {
	var all []string
	put := func(words ...string) { all = append(all, words...) }
	number := strconv.Itoa
	value := func(e api.Effect) string { return []string{"keep", "less", number(e.N)}[e.Value] }
	for _, k := range p.Kinds {
		put("kind", k.Name, "{", "limit", number(k.Limit), "in", number(k.Within), ";")
		for _, c := range k.Cases {
			if c.Reason != "" {
				put("case", c.Reason)
			} else {
				put("else")
			}
			put([]string{"resume", "restart", "stop", "escalate"}[c.Do-1], ";")
		}
		for _, s := range k.States {
			put("state", s.Name, "{")
			for _, r := range s.Rows {
				switch {
				case r.Tag == "":
					put("any", "{")
				case r.Only:
					put("on", r.Tag, number(r.N), "{")
				default:
					put("on", r.Tag, "{")
				}
				for _, e := range r.Effects {
					put([][]string{1: {"send", e.Ref, e.Name, value(e)}, {"spawn", e.Slot, e.Name}, {"become", e.Name}, {"stash"}, {"unstash"}, {"watch", e.Ref}, {"unwatch", e.Ref},
						{"timer", number(e.Delay), e.Name, value(e)}, {"cancel", e.Name}, {"hold", e.Slot}, {"stop"}, {"fail", e.Name}}[e.Do]...)
					put(";")
				}
				put("}")
			}
			put("}")
		}
		put("}")
	}
	return all
}

// loosely writes words with whatever may stand between them, with noughts ahead of numbers.
func loosely(draw *rand.Rand, words []string) string {
	var text strings.Builder
	for i, word := range words {
		glued := i > 0 && !lex.Name(word) && lex.Name(words[i-1]) && strings.Contains("{};", word)
		if !glued || draw.Intn(2) == 0 {
			text.WriteString([]string{" ", "\n", "\t", "\r\n", " # kind }\n", "\n\n"}[draw.Intn(6)])
		}
		if word[0] <= '9' && draw.Intn(3) == 0 {
			text.WriteString("00")
		}
		text.WriteString(word)
	}
	return text.String()
}
