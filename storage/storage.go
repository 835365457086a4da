// Package storage reads what an account's own map has, by a proof of the account and one of its map.
package storage

import (
	"twigs/account"
	"twigs/api"
	"twigs/digest"
	"twigs/fault"
	"twigs/tree"
)

// The two proofs, by their numbers in a fault.
const (
	ofAccount = 1
	ofSlot    = 2
)

// Verify gives the value of a slot of the account that has this address, and whether it has one, in the map of accounts that has this root.
func Verify(root api.Hash, address api.Address, slot api.Key, first, second []string) (string, bool, error) {
	code, had, err := tree.Verify(root, keyOf(address[:]), first)
	if err != nil {
		return "", false, fault.InProof{Proof: ofAccount, Err: err}
	}
	if !had {
		return "", false, nothing(second)
	}
	owner, err := account.Decode(code)
	if err != nil {
		return "", false, fault.InProof{Proof: ofAccount, Err: fault.InNode{Node: len(first), Err: err}}
	}
	value, had, err := tree.Verify(owner.Root, keyOf(slot[:]), second)
	if err != nil {
		return "", false, fault.InProof{Proof: ofSlot, Err: err}
	}
	return value, had, nil
}

// nothing sees that the second proof has no node, since there is no account whose map it could speak of.
func nothing(second []string) error {
	if len(second) > 0 {
		return fault.InProof{Proof: ofSlot, Err: fault.InNode{Node: 0, Err: fault.Rest}}
	}
	return nil
}

// keyOf gives the key under which a map has what an address or a slot names.
func keyOf(name []byte) api.Key {
	return api.Key(digest.Of(string(name)))
}
