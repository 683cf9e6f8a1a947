package trial

import (
	"errors"
	"strings"
	"testing"

	"troupe/api"
	"troupe/lex"
)

func TestShort(t *testing.T) {
	long := strings.Repeat("a", 201)
	for text, want := range map[string]string{"": `""`, "a\n": `"a\n"`, long[:200]: `"` + long[:200] + `"`, long: `"` + long[:200] + `".., of 201`} {
		if got := Short(text); got != want {
			t.Errorf("Short(%q) = %s, want %s", text, got, want)
		}
	}
}

func TestFaultHoldsRightOnes(t *testing.T) {
	sign := &lex.Fault{Code: api.ErrSign, At: 3}
	for _, err := range []error{sign, errors.Join(errors.New("x"), sign)} {
		c := &tally{}
		Fault(c, "a", err, api.ErrSign, 3)
		if c.errors != 0 {
			t.Errorf("%v: %d errors", err, c.errors)
		}
	}
}

func TestFaultTellsWhatIsWrong(t *testing.T) {
	for _, err := range []error{nil, errors.New("x"), api.ErrSign, &lex.Fault{Code: api.ErrSign, At: 4}, &lex.Fault{Code: api.ErrName, At: 3}} {
		c := &tally{}
		Fault(c, "a", err, api.ErrSign, 3)
		if c.errors == 0 {
			t.Errorf("%v is taken for error %d at 3", err, api.ErrSign)
		}
	}
}
