package lex_test

import (
	"errors"
	"math"
	"math/rand"
	"slices"
	"strconv"
	"strings"
	"testing"
	"unsafe"

	"troupe/api"
	"troupe/lex"
	"troupe/trial"
)

const (
	letters = "abcdefghijklmnopqrstuvwxyz"
	digits  = "0123456789"
)

// plain reads a text byte by byte, as the chapter tells it.
type plain struct {
	text string
	at   int
}

// among tells whether the next byte is one of these.
func (p *plain) among(these string) bool {
	return p.at < len(p.text) && strings.IndexByte(these, p.text[p.at]) >= 0
}

func (p *plain) pass(these string) {
	for p.among(these) {
		p.at++
	}
}

func (p *plain) passBlanks() {
	for p.among("\x09\x0a\x0d\x20#") {
		for p.among("#") {
			for p.at < len(p.text) && p.text[p.at] != 10 {
				p.at++
			}
		}
		p.pass("\x09\x0a\x0d\x20")
	}
}

// next reads one token.
func (p *plain) next() (api.Token, api.Errno) {
	from := p.at
	got := api.Token{At: from}
	switch {
	case p.among(letters):
		p.pass(letters + digits + "_")
		if p.at-from > 16 {
			return got, api.ErrName
		}
		got.Kind = 1
	case p.among(digits):
		for p.among(digits) {
			got.N = min(10*got.N+int(p.text[p.at]-'0'), 65536)
			p.at++
		}
		if got.N > 65535 || p.among(letters+"_") {
			return got, api.ErrNumber
		}
		got.Kind = 2
	case p.among("{};"):
		p.at++
		got.Kind = 3
	default:
		return got, api.ErrSign
	}
	got.Text = p.text[from:p.at]
	return got, api.OK
}

// plainly answers what All is to answer: the tokens, or a fault's number and place.
func plainly(text string) ([]api.Token, api.Errno, int) {
	if len(text) > 16384 {
		return nil, api.ErrLong, 0
	}
	var tokens []api.Token
	p := &plain{text: text}
	for p.passBlanks(); p.at < len(text); p.passBlanks() {
		token, e := p.next()
		if e != api.OK {
			return nil, e, token.At
		}
		tokens = append(tokens, token)
	}
	return tokens, api.OK, -1
}

// wantFault holds a refusal against its number and place.
func wantFault(t *testing.T, text string, code api.Errno, at int) {
	t.Helper()
	tokens, err := lex.All(text)
	if len(tokens) != 0 {
		t.Errorf("All(%s) = %v beside a fault", trial.Short(text), tokens)
	}
	trial.Fault(t, text, err, code, at)
}

func wantTokens(t *testing.T, text string, want ...api.Token) {
	t.Helper()
	tokens, err := lex.All(text)
	if err != nil || !slices.Equal(tokens, want) {
		t.Errorf("All(%s) = %v, %v, want %v", trial.Short(text), tokens, err, want)
	}
	if lex.Code(err) != api.OK || lex.At(err) != -1 {
		t.Errorf("All(%s): Code %d, At %d, want 0, -1", trial.Short(text), lex.Code(err), lex.At(err))
	}
}

// wantPlainly holds All against the plain reading.
func wantPlainly(t *testing.T, text string) {
	t.Helper()
	if tokens, code, at := plainly(text); code != api.OK {
		wantFault(t, text, code, at)
	} else {
		wantTokens(t, text, tokens...)
	}
}

// allTexts visits all texts of up to most of these parts.
func allTexts(most int, parts []string, visit func(text string)) {
	var grow func(text string, left int)
	grow = func(text string, left int) {
		visit(text)
		if left == 0 {
			return
		}
		for _, part := range parts {
			grow(text+part, left-1)
		}
	}
	grow("", most)
}

func TestExamplesOfTheChapter(t *testing.T) {
	wantTokens(t, "on a1 { 07; } # x",
		api.Token{Kind: api.TName, Text: "on", At: 0},
		api.Token{Kind: api.TName, Text: "a1", At: 3},
		api.Token{Kind: api.TSign, Text: "{", At: 6},
		api.Token{Kind: api.TNumber, Text: "07", N: 7, At: 8},
		api.Token{Kind: api.TSign, Text: ";", At: 10},
		api.Token{Kind: api.TSign, Text: "}", At: 12})
	wantFault(t, "a$", api.ErrSign, 1)
	wantFault(t, "7a", api.ErrNumber, 0)
	wantFault(t, "65536", api.ErrNumber, 0)
	wantFault(t, "A", api.ErrSign, 0)
	wantFault(t, strings.Repeat("a", 17), api.ErrName, 0)
	wantTokens(t, "")
}

// P12.1: each byte is a token, a blank, a remark's beginning, or none of these.
func TestAllOfEachByte(t *testing.T) {
	for b := range 256 {
		text := string([]byte{byte(b)})
		switch {
		case strings.Contains(letters, text):
			wantTokens(t, text, api.Token{Kind: api.TName, Text: text})
		case strings.Contains(digits, text):
			wantTokens(t, text, api.Token{Kind: api.TNumber, Text: text, N: b - '0'})
		case b == '{' || b == '}' || b == ';':
			wantTokens(t, text, api.Token{Kind: api.TSign, Text: text})
		case b == 9 || b == 10 || b == 13 || b == 32 || b == '#':
			wantTokens(t, text)
		default:
			wantFault(t, text, api.ErrSign, 0)
		}
	}
}

// P12.1: any byte behind any other one.
func TestAllOfAnyTwoBytes(t *testing.T) {
	for b := range 65536 {
		wantPlainly(t, string([]byte{byte(b >> 8), byte(b)}))
	}
}

// P12.1: all short texts of what the form tells apart.
func TestAllOfShortTexts(t *testing.T) {
	allTexts(5, []string{"a", "0", "9", "_", "{", "}", ";", "#", "\n", " "}, func(text string) { wantPlainly(t, text) })
	allTexts(5, []string{"z", "6553", "5", "6", "_", "A", "\r", "\t", "\x80"}, func(text string) { wantPlainly(t, text) })
}

// P12.1: what stands between tokens makes none, and needn't be there where they tell themselves apart.
func TestAllBetweenTokens(t *testing.T) {
	for _, between := range []string{" ", "\t", "\r", "\n", "\r\n", " \t\r\n ", "#\n", "# x { $ 7a\n", "##\n#\n", " #\r\x00\xff\n \n#é\n\t", "\n\n"} {
		n := len(between)
		wantTokens(t, between+"a"+between+"7"+between+"b"+between,
			api.Token{Kind: api.TName, Text: "a", At: n},
			api.Token{Kind: api.TNumber, Text: "7", N: 7, At: 2*n + 1},
			api.Token{Kind: api.TName, Text: "b", At: 3*n + 2})
	}
	wantTokens(t, "a{7;}b",
		api.Token{Kind: api.TName, Text: "a"},
		api.Token{Kind: api.TSign, Text: "{", At: 1},
		api.Token{Kind: api.TNumber, Text: "7", N: 7, At: 2},
		api.Token{Kind: api.TSign, Text: ";", At: 3},
		api.Token{Kind: api.TSign, Text: "}", At: 4},
		api.Token{Kind: api.TName, Text: "b", At: 5})
	wantTokens(t, "a7_b", api.Token{Kind: api.TName, Text: "a7_b"})
	for _, text := range []string{"a\vb", "a\fb", "a\x00b", "a\u00a0b", "a\u2003b", "a\u0085b"} {
		wantFault(t, text, api.ErrSign, 1)
	}
}

// P12.1: a remark goes to the next byte 10, and to no other one.
func TestAllOfRemarks(t *testing.T) {
	for _, text := range []string{"#", "# $", "#\n", "#\n#", "# a\r{ 7a", "#\x00", "#\x0b;", "#\u2028;", " \t#}"} {
		wantTokens(t, text)
	}
	wantTokens(t, "a#b\nc", api.Token{Kind: api.TName, Text: "a"}, api.Token{Kind: api.TName, Text: "c", At: 4})
	wantTokens(t, "7#a", api.Token{Kind: api.TNumber, Text: "7", N: 7})
	wantFault(t, "# $\n$", api.ErrSign, 4)
	wantFault(t, "#\r\n $", api.ErrSign, 4)
}

// P12.1: names up to the edge, and behind it.
func TestAllOfNames(t *testing.T) {
	for _, tail := range []string{"a", "z", "0", "9", "_"} {
		for n := range 40 {
			text := "q" + strings.Repeat(tail, n)
			if n < 16 {
				wantTokens(t, text, api.Token{Kind: api.TName, Text: text})
				wantTokens(t, " "+text+";", api.Token{Kind: api.TName, Text: text, At: 1}, api.Token{Kind: api.TSign, Text: ";", At: n + 2})
				wantFault(t, text+"A", api.ErrSign, n+1)
			} else {
				wantFault(t, text, api.ErrName, 0)
				wantFault(t, "7 "+text+";", api.ErrName, 2)
				wantFault(t, text+"A", api.ErrName, 0)
			}
		}
	}
	wantFault(t, "_", api.ErrSign, 0)
	wantFault(t, "_a", api.ErrSign, 0)
	wantFault(t, "aB", api.ErrSign, 1)
	wantFault(t, "aé", api.ErrSign, 1)
	wantFault(t, "a{_", api.ErrSign, 2)
	wantFault(t, strings.Repeat("a", 16384), api.ErrName, 0)
}

// P12.1: each number that is one, and those behind it.
func TestAllOfNumbers(t *testing.T) {
	for n := range 70000 {
		text := strconv.Itoa(n)
		if n > 65535 {
			wantFault(t, text, api.ErrNumber, 0)
		} else {
			wantTokens(t, text, api.Token{Kind: api.TNumber, Text: text, N: n})
		}
	}
	for _, text := range []string{"99999", "100000", "655350", "4294967296", "4294967297", "18446744073709551615", "18446744073709551616", "18446744073709551617", strings.Repeat("9", 16383)} {
		wantFault(t, text, api.ErrNumber, 0)
		wantFault(t, ";"+text, api.ErrNumber, 1)
	}
}

// P12.1: noughts ahead stand in the text, and count for nothing.
func TestAllOfNoughtsAhead(t *testing.T) {
	for _, n := range []int{1, 2, 5, 16, 17, 20, 100, 16379} {
		noughts := strings.Repeat("0", n)
		wantTokens(t, noughts, api.Token{Kind: api.TNumber, Text: noughts})
		wantTokens(t, noughts+"65535", api.Token{Kind: api.TNumber, Text: noughts + "65535", N: 65535})
		wantFault(t, noughts+"65536", api.ErrNumber, 0)
		wantTokens(t, noughts+"10", api.Token{Kind: api.TNumber, Text: noughts + "10", N: 10})
	}
}

// P12.1: what may stand behind a number, and what may not.
func TestAllBehindNumbers(t *testing.T) {
	for _, digits := range []string{"0", "7", "007", "65535", "65536", "99999999999999999999"} {
		for b := range 256 {
			text := digits + string([]byte{byte(b)})
			wantPlainly(t, text)
			if b == '_' || 'a' <= b && b <= 'z' {
				wantFault(t, text, api.ErrNumber, 0)
				wantFault(t, "; "+text+" $", api.ErrNumber, 2)
			}
		}
	}
	wantFault(t, "7 _", api.ErrSign, 2)
	wantFault(t, "7a"+strings.Repeat("b", 40), api.ErrNumber, 0)
	wantFault(t, "0x1", api.ErrNumber, 0)
	wantFault(t, "1_000", api.ErrNumber, 0)
	wantFault(t, "1e3", api.ErrNumber, 0)
	wantFault(t, "-1", api.ErrSign, 0)
	wantFault(t, "+1", api.ErrSign, 0)
	wantFault(t, "1.5", api.ErrSign, 1)
	wantFault(t, "٣", api.ErrSign, 0)
}

// P12.1: a text that is too long is told ahead of all else; one that is just as long as may be isn't.
func TestAllOfLongTexts(t *testing.T) {
	for _, part := range []string{" ", "#", ";", "a ", "0", "aaaaaaaaaaaaaaaaa", "$", "7a", "\xff", "# x\n"} {
		whole := strings.Repeat(part, 16384)
		wantPlainly(t, whole[:16383])
		wantPlainly(t, whole[:16384])
		wantFault(t, whole[:16384]+" ", api.ErrLong, 0)
		wantFault(t, whole+whole, api.ErrLong, 0)
	}
	signs := strings.Repeat(";", 16384)
	tokens, err := lex.All(signs)
	if err != nil || len(tokens) != 16384 || tokens[16383] != (api.Token{Kind: api.TSign, Text: ";", At: 16383}) {
		t.Errorf("All of 16384 signs: %d tokens, %v", len(tokens), err)
	}
	wantFault(t, signs+";", api.ErrLong, 0)
	wantFault(t, signs[1:]+"$", api.ErrSign, 16383)
	wantFault(t, "$"+signs, api.ErrLong, 0)
	wantFault(t, strings.Repeat("$", 1<<20), api.ErrLong, 0)
}

// P12.1: of several faults the first one in the text, of whichever kind.
func TestAllTellsTheFirstFault(t *testing.T) {
	faults := []struct {
		text string
		code api.Errno
	}{{"$", api.ErrSign}, {"_", api.ErrSign}, {"7a", api.ErrNumber}, {"65536", api.ErrNumber}, {strings.Repeat("n", 17), api.ErrName}}
	for _, first := range faults {
		for _, then := range faults {
			for _, ahead := range []string{"", "a ", "# $ 7a\n", "{ ; 007 }\n"} {
				wantFault(t, ahead+first.text+" "+then.text, first.code, len(ahead))
				wantFault(t, ahead+first.text+"\n; "+then.text+then.text, first.code, len(ahead))
			}
		}
	}
}

// drawText is a text of tokens and of what stands between them, about every other one with a fault or two.
func drawText(draw *rand.Rand) string {
	parts := []string{" ", "\n", "\t", "\r", "{", "}", ";", " # a $\n", "#\n", " kind ", " on\n", " a_1 ", " 0 ", " 65535 ", " 007;", " 7;"}
	faults := []string{"A", "$", "\x00", "\xff", "é", "_", "7a", " 65536", " nnnnnnnnnnnnnnnnn", "0_"}
	var text strings.Builder
	seldom := 60 + draw.Intn(120)
	for range draw.Intn(120) {
		if draw.Intn(seldom) == 0 {
			text.WriteString(faults[draw.Intn(len(faults))])
		} else {
			text.WriteString(parts[draw.Intn(len(parts))])
		}
	}
	return text.String()
}

// P12.1 and P12.4: many texts, each the same at every run; each that is refused is read up to its fault, too.
func TestAllOfManyTexts(t *testing.T) {
	const texts = 4000
	refused := 0
	for seed := range int64(texts) {
		text := drawText(rand.New(rand.NewSource(seed)))
		wantPlainly(t, text)
		if _, err := lex.All(text); err != nil {
			refused++
			text = text[:max(lex.At(err), 0)]
		}
		wantTokensAlone(t, text)
		if t.Failed() {
			t.Fatalf("seed %d", seed)
		}
	}
	if refused < texts/4 || refused > texts*3/4 {
		t.Errorf("of %d texts %d are refused: the draws tell too little", texts, refused)
	}
}

// wantTokensAlone holds the tokens of a text against what they are alone.
func wantTokensAlone(t *testing.T, text string) {
	t.Helper()
	tokens, err := lex.All(text)
	if err != nil {
		t.Errorf("All(%s): %v", trial.Short(text), err)
	}
	behind := 0
	for _, token := range tokens {
		if token.At < behind || !strings.HasPrefix(text[token.At:], token.Text) {
			t.Errorf("All(%s): %v at %d, behind %d", trial.Short(text), token, token.At, behind)
		}
		behind = token.At + len(token.Text)
		alone := token
		alone.At = 0
		wantTokens(t, token.Text, alone)
	}
}

// P12.4
func TestTokensStandWhereTheySay(t *testing.T) {
	for _, text := range []string{"", "a", "a a a", ";;{}}", "a7 7;7{007}", "# a\nkind a { limit 3 in 4095; state s { on x 65535 { } any { } } }"} {
		wantTokensAlone(t, text)
	}
	allTexts(5, []string{"a", "7", "0", "{", ";", " ", "#\n"}, func(text string) {
		if _, err := lex.All(text); err == nil {
			wantTokensAlone(t, text)
		}
	})
}

// P12.2
func TestName(t *testing.T) {
	sixteen := "abcdefgh_1234567"
	for _, name := range []string{"a", "z", "aa", "a_", "a_1", "a0", "z9", "a__", "kind", "self", "any", "q7z_", sixteen, strings.Repeat("z", 16), "a" + strings.Repeat("_", 15), "a" + strings.Repeat("0", 15)} {
		if !lex.Name(name) {
			t.Errorf("Name(%q) is false", name)
		}
	}
	for _, s := range []string{"", " ", "_", "_a", "0", "1a", "007", "A", "aA", "Aa", "a ", " a", "a\n", "\na", "a b", "a#", "#a", "a#\n", "a;", ";", "{", "a{", "a-b", "a.b", "aé", "é", "ａ", "a\x00", "\x00", "a\xff", "\xe1", "a\x80", "`", "{", "a`", "a/", "a:", sixteen + "8", sixteen + " ", sixteen + "$", strings.Repeat("a", 17), strings.Repeat("a", 16385), strings.Repeat("a", 1<<20)} {
		if lex.Name(s) {
			t.Errorf("Name(%s) is true", trial.Short(s))
		}
	}
}

// wantNameAsRead holds Name against what is read: a name is what is one token of that kind, the whole of it.
func wantNameAsRead(t *testing.T, s string) {
	t.Helper()
	tokens, _, _ := plainly(s)
	want := len(tokens) == 1 && tokens[0].Kind == api.TName && tokens[0].Text == s
	if got := lex.Name(s); got != want {
		t.Errorf("Name(%s) = %v, want %v", trial.Short(s), got, want)
	}
}

// P12.2: any byte, alone and behind any other one, and all lengths.
func TestNameIsWhatIsReadAsOne(t *testing.T) {
	for b := range 65536 {
		wantNameAsRead(t, string([]byte{byte(b)}))
		wantNameAsRead(t, string([]byte{byte(b >> 8), byte(b)}))
		wantNameAsRead(t, string([]byte{'a', byte(b >> 8), byte(b)}))
	}
	for n := range 40 {
		for _, s := range []string{"a", "0", "_", " ", "$"} {
			wantNameAsRead(t, strings.Repeat(s, n))
			wantNameAsRead(t, strings.Repeat("a", n)+s)
		}
	}
	allTexts(5, []string{"a", "0", "_", ";", " ", "#", "\n", "é"}, func(text string) { wantNameAsRead(t, text) })
}

// P12.3
func TestErrorOfAFault(t *testing.T) {
	for _, c := range []struct {
		fault lex.Fault
		want  string
	}{
		{lex.Fault{Code: api.ErrSign, At: 3}, "troupe: error 20 at 3"},
		{lex.Fault{Code: api.ErrNumber}, "troupe: error 21 at 0"},
		{lex.Fault{Code: api.ErrName, At: 16383}, "troupe: error 22 at 16383"},
		{lex.Fault{Code: api.ErrLong}, "troupe: error 5 at 0"},
		{lex.Fault{}, "troupe: error 0 at 0"},
		{lex.Fault{Code: -7, At: -1}, "troupe: error -7 at -1"},
		{lex.Fault{Code: math.MaxInt, At: math.MaxInt}, "troupe: error 9223372036854775807 at 9223372036854775807"},
	} {
		if got := c.fault.Error(); got != c.want {
			t.Errorf("Error = %q, want %q", got, c.want)
		}
	}
	_, err := lex.All("a\n  $")
	if err == nil || err.Error() != "troupe: error 20 at 4" {
		t.Errorf("All of a sign that is none: %v", err)
	}
}

// P12.3
func TestUnwrapOfAFault(t *testing.T) {
	codes := []api.Errno{api.OK, api.ErrArg, api.ErrLong, api.ErrSign, api.ErrNumber, api.ErrName, api.ErrWord, -1, math.MaxInt}
	for _, code := range codes {
		fault := &lex.Fault{Code: code, At: 9}
		if got := fault.Unwrap(); got != error(code) {
			t.Errorf("Unwrap = %v, want %v", got, code)
		}
		for _, asked := range codes {
			if got := errors.Is(fault, asked); got != (asked == code) {
				t.Errorf("errors.Is of %d, asked for %d: %v", code, asked, got)
			}
		}
	}
}

// wantCodeAndAt holds an error's number and place against what they are to be.
func wantCodeAndAt(t *testing.T, how string, err error, code api.Errno, at int) {
	t.Helper()
	if gotCode, gotAt := lex.Code(err), lex.At(err); gotCode != code || gotAt != at {
		t.Errorf("%s: Code %d, At %d, want %d, %d", how, gotCode, gotAt, code, at)
	}
}

// P12.3: the first fault, wherever it is wrapped.
func TestCodeAndAt(t *testing.T) {
	wantCodeAndAt(t, "no error", nil, api.OK, -1)
	wantCodeAndAt(t, "a fault of nothing", &lex.Fault{}, api.OK, 0)
	wantCodeAndAt(t, "a fault of any numbers", &lex.Fault{Code: api.ErrArg, At: -5}, api.ErrArg, -5)
	wantCodeAndAt(t, "a number alone", api.ErrSign, api.ErrArg, -1)
	wantCodeAndAt(t, "a number alone", api.OK, api.ErrArg, -1)
	for _, w := range trial.Wraps(&lex.Fault{Code: api.ErrSign, At: 7}, &lex.Fault{Code: api.ErrName, At: 9}) {
		if w.Is {
			wantCodeAndAt(t, w.How, w.Err, w.Found.Code, w.Found.At)
		} else {
			wantCodeAndAt(t, w.How, w.Err, api.ErrArg, -1)
		}
	}
}

// P12.3: what is read without a fault is no error, not even one that holds nil.
func TestNoFaultIsNoError(t *testing.T) {
	for _, text := range []string{"", " ", "#", "a", "7", "{"} {
		if _, err := lex.All(text); err != nil {
			t.Errorf("All(%q): an error", text)
		}
	}
}

// shares tells whether two texts lie in one memory, at least in part.
func shares(a, b string) bool {
	if a == "" || b == "" {
		return false
	}
	atA, atB := uintptr(unsafe.Pointer(unsafe.StringData(a))), uintptr(unsafe.Pointer(unsafe.StringData(b)))
	return atA < atB+uintptr(len(b)) && atB < atA+uintptr(len(a))
}

// Rule 5: tokens, their texts and their spare room are new memory.
func TestAnswersAreNewMemory(t *testing.T) {
	for n := range 20 {
		text := strings.Repeat("ab 7;", n)
		want, _, _ := plainly(text)
		first, _ := lex.All(text)
		again, _ := lex.All(text)
		for i := range first {
			if shares(first[i].Text, text) || shares(first[i].Text, again[i].Text) {
				t.Errorf("token %d of %q shares its text", i, text)
			}
		}
		for _, spare := range [][]api.Token{first[:cap(first)], append(first, api.Token{N: 1})} {
			for i := range spare {
				spare[i] = api.Token{Kind: 9, Text: "spoilt"}
			}
		}
		if !slices.Equal(again, want) {
			t.Errorf("All(%q) has become %v", text, again)
		}
		wantPlainly(t, text)
	}
}

// Rule 5: a fault that is changed changes no other one.
func TestFaultsAreNewMemory(t *testing.T) {
	for _, text := range []string{"$", "7a", strings.Repeat("a", 17), strings.Repeat(" ", 16385)} {
		var want lex.Fault
		for i := range 3 {
			_, err := lex.All(text)
			var fault *lex.Fault
			if !errors.As(err, &fault) {
				t.Fatalf("All(%s): %v", trial.Short(text), err)
			}
			if i == 0 {
				want = *fault
			}
			if *fault != want {
				t.Errorf("All(%s): %v, want %v", trial.Short(text), *fault, want)
			}
			*fault = lex.Fault{Code: 99, At: 99}
		}
	}
}
