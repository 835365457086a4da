package tree

import (
	"twigs/api"
	"twigs/fault"
)

// stub is a node of which the digest alone is known.
type stub struct {
	worked
}

func hide(h api.Hash) *stub { return &stub{worked{held: referenceBy(h)}} }

func (s *stub) reference() string { return s.held }

// Nibbles ahead of a leaf or an extension are joined to its path, those ahead of a branch are not; which of them a stub is can't be told.
func (s *stub) behind(string) (node, error) { return nil, fault.Stub }

func (s *stub) fits(int) bool { return true }

func (s *stub) operations(witness []byte, _ wanted) []byte {
	h := digestOf(s)
	return append(append(witness, api.OpStub), h[:]...)
}
