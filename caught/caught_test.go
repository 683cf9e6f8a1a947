package caught_test

import (
	"errors"
	"testing"

	"troupe/api"
	"troupe/caught"
	"troupe/lex"
	"troupe/trial"
)

func TestFirst(t *testing.T) {
	for _, w := range trial.Wraps(&lex.Fault{Code: api.ErrSign}, &lex.Fault{Code: api.ErrName}) {
		if found := caught.First[*lex.Fault](w.Err); found != w.Found {
			t.Errorf("%s: %v, want %v", w.How, found, w.Found)
		}
	}
	if found := caught.First[*lex.Fault](nil); found != nil {
		t.Errorf("no error: %v", found)
	}
}

func TestFirstOfAnotherType(t *testing.T) {
	if found := caught.First[api.Errno](&lex.Fault{Code: api.ErrSign}); found != api.ErrSign {
		t.Errorf("a fault's number: %v", found)
	}
	if found := caught.First[api.Errno](errors.New("plain")); found != api.OK {
		t.Errorf("no number: %v", found)
	}
}
