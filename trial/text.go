package trial

import (
	"errors"
	"strconv"

	"troupe/api"
	"troupe/lex"
)

const tellable = 200 // bytes of a text that a test's remark has room for

// Short answers a text as it can be told in a line.
func Short(text string) string {
	if len(text) > tellable {
		return strconv.Quote(text[:tellable]) + ".., of " + strconv.Itoa(len(text))
	}
	return strconv.Quote(text)
}

// Fault holds the error that a text has come to against its number and place.
func Fault(t T, text string, err error, code api.Errno, at int) {
	t.Helper()
	var fault *lex.Fault
	if !errors.As(err, &fault) || *fault != (lex.Fault{Code: code, At: at}) || !errors.Is(err, code) {
		t.Errorf("%s: %v, want error %d at %d", Short(text), err, code, at)
	}
	if lex.Code(err) != code || lex.At(err) != at {
		t.Errorf("%s: Code %d, At %d, want %d, %d", Short(text), lex.Code(err), lex.At(err), code, at)
	}
}
