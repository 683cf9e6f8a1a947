package trial

import "errors"

// Wrap is an error, and what is to be found in it.
type Wrap[T error] struct {
	How   string
	Err   error
	Found T
	Is    bool // there is something to be found; else Found is the zero value
}

// around is an error around another one; a nil one of these panics when it is asked for it.
type around struct{ within error }

func (a *around) Error() string { return "around another one" }
func (a *around) Unwrap() error { return a.within }

// turning is an error that turns itself into another one, if it is willing, when it is asked.
type turning[T error] struct {
	into    T
	willing bool
}

func (t turning[T]) Error() string { return "turning" }
func (t turning[T]) As(target any) bool {
	if place, ok := target.(*T); ok {
		*place = t.into
	}
	return t.willing
}

// Wraps are errors that are two ones, wrap them or have none of them to be found; in one that both are in, the first is.
func Wraps[T error](first, second T) []Wrap[T] {
	var none T
	var nowhere *around
	plain := errors.New("plain")
	return []Wrap[T]{
		{"the first one", first, first, true},
		{"the second one", second, second, true},
		{"around the first one", &around{first}, first, true},
		{"twice around the second one", &around{&around{second}}, second, true},
		{"both", errors.Join(first, second), first, true},
		{"both, the second one deeper", errors.Join(plain, first, &around{second}), first, true},
		{"both, the first one deeper", errors.Join(plain, &around{first}, second), first, true},
		{"turning into the first one", turning[T]{first, true}, first, true},
		{"not turning, ahead of the second one", errors.Join(turning[T]{first, false}, second), second, true},
		{"plain", plain, none, false},
		{"plain ones", errors.Join(plain, plain), none, false},
		{"around a plain one", &around{plain}, none, false},
		{"around nothing", &around{}, none, false},
		{"not turning", turning[T]{first, false}, none, false},
		{"a nil one", none, none, false},
		{"around a nil one", &around{none}, none, false},
		{"nowhere", nowhere, none, false},
		{"around nowhere", &around{nowhere}, none, false},
		{"not turning, ahead of nowhere", errors.Join(turning[T]{first, false}, nowhere), none, false},
	}
}
