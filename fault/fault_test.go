package fault

import (
	"errors"
	"testing"

	"twigs/api"
)

func TestEachErrorHasItsNumber(t *testing.T) {
	for _, c := range []struct {
		err  error
		want api.Errno
	}{
		{nil, api.OK},
		{Long, api.ErrLong},
		{Short, api.ErrShort},
		{Form, api.ErrForm},
		{Rest, api.ErrRest},
		{Deep, api.ErrDeep},
		{Nibble, api.ErrNibble},
		{Value, api.ErrValue},
		{Account, api.ErrAccount},
	} {
		if got := Number(c.err); got != c.want {
			t.Errorf("the number of %v is %d, want %d", c.err, got, c.want)
		}
		if c.err == nil {
			continue
		}
		if got := Number(Place{At: 3, Err: c.err}); got != c.want {
			t.Errorf("the number of %v at a place is %d, want %d", c.err, got, c.want)
		}
	}
}

func TestStrangeErrorIsNotOK(t *testing.T) {
	if Number(errors.New("strange")) == api.OK {
		t.Error("an error without a number passes for OK")
	}
}

func TestTell(t *testing.T) {
	for _, c := range []struct {
		err  error
		want api.Fault
	}{
		{nil, api.Fault{}},
		{Long, api.Fault{Err: api.ErrLong}},
		{Place{At: 7, Err: Short}, api.Fault{Err: api.ErrShort, At: 7}},
		{Place{At: 0, Err: Deep}, api.Fault{Err: api.ErrDeep}},
	} {
		if got := Tell(c.err); got != c.want {
			t.Errorf("Tell(%v) = %+v, want %+v", c.err, got, c.want)
		}
	}
}

func TestPlaceSaysWhatItWraps(t *testing.T) {
	err := Place{At: 12, Err: Short}
	if !errors.Is(err, Short) || errors.Is(err, Form) {
		t.Error("a place does not give what it wraps, or gives another error")
	}
	if got, want := err.Error(), "byte 12: it ends too early"; got != want {
		t.Errorf("it reads %q, want %q", got, want)
	}
}
