// Package fault has the errors that the layers give to one another, and tells them as the numbers and faults of package api.
package fault

import (
	"errors"
	"strconv"

	"twigs/api"
)

// What can be wrong; each has its number in package api.
var (
	Long    = errors.New("more bytes than there may be")
	Short   = errors.New("it ends too early")
	Form    = errors.New("it would be written otherwise")
	Rest    = errors.New("something is left behind the end")
	Deep    = errors.New("lists are too deep in one another")
	Nibble  = errors.New("a byte of the path is above 15")
	Digest  = errors.New("another digest is wanted")
	Node    = errors.New("this has not the form of a node")
	Op      = errors.New("this is no operation")
	Stack   = errors.New("there are too few nodes, or too many")
	Value   = errors.New("a value has no byte or too many")
	Stub    = errors.New("a node is needed of which the digest alone is known")
	Account = errors.New("this is no account")
)

// Place adds to what is wrong how many bytes stand ahead of it.
type Place struct {
	At  int
	Err error
}

func (p Place) Error() string { return "byte " + strconv.Itoa(p.At) + ": " + p.Err.Error() }

func (p Place) Unwrap() error { return p.Err }

// NoNode adds to what is wrong in a path that so the item, or the operation, around it is no node.
type NoNode struct {
	Err error
}

func (n NoNode) Error() string { return Node.Error() + ": " + n.Err.Error() }

func (n NoNode) Is(err error) bool { return err == Node }

func (n NoNode) Unwrap() error { return n.Err }

// InNode adds to what is wrong the number of the node, in its proof.
type InNode struct {
	Node int
	Err  error
}

func (n InNode) Error() string { return "node " + strconv.Itoa(n.Node) + ": " + n.Err.Error() }

func (n InNode) Unwrap() error { return n.Err }

// InProof adds to what is wrong the number of the proof, where there are two.
type InProof struct {
	Proof int
	Err   error
}

func (p InProof) Error() string { return "proof " + strconv.Itoa(p.Proof) + ": " + p.Err.Error() }

func (p InProof) Unwrap() error { return p.Err }

// Number tells what is wrong, however deep it is wrapped.
func Number(err error) api.Errno {
	switch {
	case err == nil:
		return api.OK
	case errors.Is(err, Long):
		return api.ErrLong
	case errors.Is(err, Short):
		return api.ErrShort
	case errors.Is(err, Rest):
		return api.ErrRest
	case errors.Is(err, Deep):
		return api.ErrDeep
	case errors.Is(err, Nibble):
		return api.ErrNibble
	case errors.Is(err, Digest):
		return api.ErrDigest
	case errors.Is(err, Node):
		return api.ErrNode
	case errors.Is(err, Op):
		return api.ErrOp
	case errors.Is(err, Stack):
		return api.ErrStack
	case errors.Is(err, Value):
		return api.ErrValue
	case errors.Is(err, Stub):
		return api.ErrStub
	case errors.Is(err, Account):
		return api.ErrAccount
	}
	// Form is the last one left: so no error ever passes for OK, and a path's Form that a NoNode wraps is not told.
	return api.ErrForm
}

// Tell gives all that the layers have said of what is wrong.
func Tell(err error) api.Fault {
	told := api.Fault{Err: Number(err)}
	var place Place
	if errors.As(err, &place) {
		told.At = place.At
	}
	var node InNode
	if errors.As(err, &node) {
		told.Node = node.Node
	}
	var proof InProof
	if errors.As(err, &proof) {
		told.Proof = proof.Proof
	}
	return told
}
