package parse_test

import (
	"strconv"
	"strings"

	"troupe/api"
	"troupe/lex"
)

// form is what the chapter gives as the form of a program; refused reads it, and holds texts against it.
const form = `
program = kind*
kind    = "kind" NAME "{" ["limit" NUMBER "in" NUMBER ";"] case* state* "}"
case    = "case" NAME do ";"   |   "else" do ";"
do      = "resume" | "restart" | "stop" | "escalate"
state   = "state" NAME "{" row* "}"
row     = "on" NAME [NUMBER] "{" effect* "}"   |   "any" "{" effect* "}"
effect  = "send" NAME NAME value ";"    |   "spawn" NAME NAME ";"   |   "become" NAME ";"
        | "stash" ";" | "unstash" ";"   |   "watch" NAME ";"        |   "unwatch" NAME ";"
        | "timer" NUMBER NAME value ";" |   "cancel" NAME ";"       |   "hold" NAME ";"
        | "stop" ";"                    |   "fail" NAME ";"
value   = "keep" | "less" | NUMBER
`

// rules are the form's own words, by what they tell of.
var rules = func() map[string][]string {
	rules := map[string][]string{}
	var name string
	fields := strings.Fields(strings.NewReplacer("[", " [ ", "]", " ] ").Replace(form))
	for i, field := range fields {
		if i+1 < len(fields) && fields[i+1] == "=" {
			name = field
		} else if field != "=" {
			rules[name] = append(rules[name], field)
		}
	}
	return rules
}()

// match tries tokens against the form, by every way there is, and notes how far they can stand.
type match struct {
	tokens []api.Token
	far    int
}

// all tries a row of the form's words from a token on, and calls then for each end that it finds.
func (m *match) all(words []string, at int, then func(at int) bool) bool {
	if len(words) == 0 {
		return then(at)
	}
	word, rest := words[0], words[1:]
	next := func(at int) bool { return m.all(rest, at, then) }
	if many, ok := strings.CutSuffix(word, "*"); ok {
		return m.one(many, at, func(at int) bool { return m.all(words, at, then) }) || next(at)
	}
	if word == "[" {
		for i, word := range rest {
			if word == "]" {
				return m.all(rest[:i], at, func(at int) bool { return m.all(rest[i+1:], at, then) }) || m.all(rest[i+1:], at, then)
			}
		}
	}
	return m.one(word, at, next)
}

// one tries one of the form's words.
func (m *match) one(word string, at int, then func(at int) bool) bool {
	if words, ok := rules[word]; ok {
		for from, i := 0, 0; i <= len(words); i++ {
			if i == len(words) || words[i] == "|" {
				if m.all(words[from:i], at, then) {
					return true
				}
				from = i + 1
			}
		}
		return false
	}
	m.far = max(m.far, at)
	if at == len(m.tokens) {
		return false
	}
	token := m.tokens[at]
	if word == "NAME" && token.Kind != api.TName || word == "NUMBER" && token.Kind != api.TNumber {
		return false
	}
	if strings.HasPrefix(word, `"`) && word != strconv.Quote(token.Text) {
		return false
	}
	return then(at + 1)
}

// refused answers the number and the place of what is to be told of a text.
func refused(text string) (api.Errno, int) {
	tokens, err := lex.All(text)
	if err != nil {
		return lex.Code(err), lex.At(err)
	}
	m := &match{tokens: tokens}
	whole := func(at int) bool { m.far = max(m.far, at); return at == len(tokens) }
	switch {
	case m.all([]string{"program"}, 0, whole):
		return api.OK, -1
	case m.far == len(tokens):
		return api.ErrEnd, len(text)
	}
	return api.ErrWord, tokens[m.far].At
}
