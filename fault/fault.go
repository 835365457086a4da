// Package fault has the errors that the layers give to one another, and tells them as the numbers and faults of package api.
package fault

import (
	"errors"
	"strconv"

	"twigs/api"
)

// What can be wrong; each has its number in package api.
var (
	Long    = errors.New("more bytes than there may be")
	Short   = errors.New("it ends too early")
	Form    = errors.New("it would be written otherwise")
	Rest    = errors.New("something is left behind the end")
	Deep    = errors.New("lists are too deep in one another")
	Nibble  = errors.New("a byte of the path is above 15")
	Value   = errors.New("a value has no byte or too many")
	Account = errors.New("this is no account")
)

// Place adds to what is wrong how many bytes stand ahead of it.
type Place struct {
	At  int
	Err error
}

func (p Place) Error() string { return "byte " + strconv.Itoa(p.At) + ": " + p.Err.Error() }

func (p Place) Unwrap() error { return p.Err }

// Number tells what is wrong, however deep it is wrapped.
func Number(err error) api.Errno {
	switch {
	case err == nil:
		return api.OK
	case errors.Is(err, Long):
		return api.ErrLong
	case errors.Is(err, Short):
		return api.ErrShort
	case errors.Is(err, Rest):
		return api.ErrRest
	case errors.Is(err, Deep):
		return api.ErrDeep
	case errors.Is(err, Nibble):
		return api.ErrNibble
	case errors.Is(err, Value):
		return api.ErrValue
	case errors.Is(err, Account):
		return api.ErrAccount
	}
	// Form is the last one left: so no error ever passes for OK.
	return api.ErrForm
}

// Tell gives all that the layers have said of what is wrong.
func Tell(err error) api.Fault {
	told := api.Fault{Err: Number(err)}
	var place Place
	if errors.As(err, &place) {
		told.At = place.At
	}
	return told
}
