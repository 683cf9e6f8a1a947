// Package caught finds what an error is, or wraps.
package caught

import "errors"

// First answers the first error of a type that an error is, or wraps; the zero value, if there is none.
func First[T error](err error) (found T) {
	var none T
	// An error of another's making may panic when it is asked what it wraps: a nil pointer, for one.
	defer func() {
		if recover() != nil {
			found = none
		}
	}()
	if !errors.As(err, &found) {
		return none
	}
	return found
}
