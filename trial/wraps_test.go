package trial

import (
	"errors"
	"testing"

	"troupe/api"
	"troupe/lex"
)

// dare asks an error as the library does, and tells whether that panics.
func dare(err error) (fault *lex.Fault, is, panics bool) {
	defer func() { panics = recover() != nil }()
	is = errors.As(err, &fault)
	return fault, is, false
}

func TestWrapsAreAsTheySay(t *testing.T) {
	first, second := &lex.Fault{Code: api.ErrSign}, &lex.Fault{Code: api.ErrName}
	found, panicked := map[*lex.Fault]int{}, 0
	for _, w := range Wraps(first, second) {
		fault, is, panics := dare(w.Err)
		switch {
		case panics:
			panicked++
			if w.Is || w.Found != nil {
				t.Errorf("%s: %v is to be found, though that panics", w.How, w.Found)
			}
		case is && fault != nil:
			found[fault]++
			if !w.Is || w.Found != fault {
				t.Errorf("%s: %v, want %v", w.How, fault, w.Found)
			}
		case w.Is || w.Found != nil:
			t.Errorf("%s: nothing, want %v", w.How, w.Found)
		}
	}
	if found[first] < 2 || found[second] < 2 || panicked < 2 {
		t.Errorf("the first one is found %d times, the second one %d; %d panics", found[first], found[second], panicked)
	}
}
