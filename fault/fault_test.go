package fault

import (
	"errors"
	"testing"

	"twigs/api"
)

func TestEachErrorHasItsNumber(t *testing.T) {
	for _, c := range []struct {
		err  error
		want api.Errno
	}{
		{nil, api.OK},
		{Long, api.ErrLong},
		{Short, api.ErrShort},
		{Form, api.ErrForm},
		{Rest, api.ErrRest},
		{Deep, api.ErrDeep},
		{Nibble, api.ErrNibble},
		{Digest, api.ErrDigest},
		{Node, api.ErrNode},
		{Op, api.ErrOp},
		{Stack, api.ErrStack},
		{Value, api.ErrValue},
		{Stub, api.ErrStub},
		{Account, api.ErrAccount},
	} {
		if got := Number(c.err); got != c.want {
			t.Errorf("the number of %v is %d, want %d", c.err, got, c.want)
		}
		if c.err == nil {
			continue
		}
		if got := Number(Place{At: 3, Err: c.err}); got != c.want {
			t.Errorf("the number of %v at a place is %d, want %d", c.err, got, c.want)
		}
		if got := Number(InProof{Proof: 1, Err: InNode{Node: 2, Err: Place{At: 3, Err: c.err}}}); got != c.want {
			t.Errorf("the number of %v in a proof is %d, want %d", c.err, got, c.want)
		}
	}
}

func TestStrangeErrorIsNotOK(t *testing.T) {
	if Number(errors.New("strange")) == api.OK {
		t.Error("an error without a number passes for OK")
	}
}

func TestTell(t *testing.T) {
	for _, c := range []struct {
		err  error
		want api.Fault
	}{
		{nil, api.Fault{}},
		{Long, api.Fault{Err: api.ErrLong}},
		{Place{At: 7, Err: Short}, api.Fault{Err: api.ErrShort, At: 7}},
		{Place{At: 0, Err: Deep}, api.Fault{Err: api.ErrDeep}},
		{InNode{Node: 4, Err: Digest}, api.Fault{Err: api.ErrDigest, Node: 4}},
		{InNode{Node: 4, Err: Place{At: 7, Err: Node}}, api.Fault{Err: api.ErrNode, Node: 4, At: 7}},
		{Place{At: 7, Err: NoNode{Err: Form}}, api.Fault{Err: api.ErrNode, At: 7}},
		{InProof{Proof: 2, Err: InNode{Node: 0, Err: Rest}}, api.Fault{Err: api.ErrRest, Proof: 2}},
		{InProof{Proof: 1, Err: InNode{Node: 4, Err: Place{At: 7, Err: Account}}}, api.Fault{Err: api.ErrAccount, Proof: 1, Node: 4, At: 7}},
	} {
		if got := Tell(c.err); got != c.want {
			t.Errorf("Tell(%v) = %+v, want %+v", c.err, got, c.want)
		}
	}
}

func TestLayersSayWhatTheyWrap(t *testing.T) {
	err := InProof{Proof: 2, Err: InNode{Node: 5, Err: Place{At: 12, Err: Short}}}
	if !errors.Is(err, Short) || errors.Is(err, Form) {
		t.Error("a layer does not give what it wraps, or gives another error")
	}
	if got, want := err.Error(), "proof 2: node 5: byte 12: it ends too early"; got != want {
		t.Errorf("it reads %q, want %q", got, want)
	}
}

func TestNoNodeIsNodeAndWhatItWraps(t *testing.T) {
	err := Place{At: 3, Err: NoNode{Err: Form}}
	if !errors.Is(err, Node) || !errors.Is(err, Form) || errors.Is(err, Short) {
		t.Error("it is not both, or is another error")
	}
	if got, want := err.Error(), "byte 3: "+Node.Error()+": "+Form.Error(); got != want {
		t.Errorf("it reads %q, want %q", got, want)
	}
}
