// Package twigs: maps that are bound by one digest, proofs and witnesses of them: see DOC.md.
package twigs

import (
	"twigs/account"
	"twigs/api"
	"twigs/digest"
	"twigs/fault"
	"twigs/item"
	"twigs/nibbles"
	"twigs/storage"
	"twigs/tree"
)

// Hasher takes a text piece by piece.
type Hasher struct {
	text digest.Hasher
}

// Tree is a map, or a part of one.
type Tree struct {
	nodes tree.Tree
}

// Digest gives the digest of a text (P3).
func Digest(text string) api.Hash { return digest.Of(text) }

// NewHasher begins a text (P3).
func NewHasher() *Hasher { return &Hasher{} }

// Write takes a piece more (P3).
func (h *Hasher) Write(piece string) { h.text.Write(piece) }

// Sum gives the digest of all pieces so far (P3).
func (h *Hasher) Sum() api.Hash { return h.text.Sum() }

// Encode gives an item's code (P4).
func Encode(x api.Item) (string, api.Errno) {
	code, err := item.Encode(x)
	return code, fault.Number(err)
}

// Decode gives the item that has a code (P4).
func Decode(code string) (api.Item, api.Fault) {
	x, err := item.Decode(code)
	return x.Bare(), fault.Tell(err)
}

// Pack gives a path's code (P5).
func Pack(path string, leaf bool) (string, api.Errno) {
	code, err := nibbles.Pack(path, leaf)
	return code, fault.Number(err)
}

// Unpack gives the path that has a code (P5).
func Unpack(code string) (string, bool, api.Errno) {
	path, leaf, err := nibbles.Unpack(code)
	return path, leaf, fault.Number(err)
}

// New makes an empty map (P6).
func New() *Tree { return &Tree{} }

// Get tells a key's value (P6).
func (t *Tree) Get(key api.Key) (string, bool, api.Errno) {
	value, had, err := t.nodes.Get(key)
	return value, had, fault.Number(err)
}

// Put gives a key a value (P6).
func (t *Tree) Put(key api.Key, value string) api.Errno {
	return fault.Number(t.nodes.Put(key, value))
}

// Delete takes a key out (P6).
func (t *Tree) Delete(key api.Key) (bool, api.Errno) {
	had, err := t.nodes.Delete(key)
	return had, fault.Number(err)
}

// Root gives the digest of all (P7).
func (t *Tree) Root() api.Hash { return t.nodes.Root() }

// Prove shows a key's value, or that it has none (P8).
func (t *Tree) Prove(key api.Key) ([]string, api.Errno) {
	proof, err := t.nodes.Prove(key)
	return proof, fault.Number(err)
}

// Verify reads a proof (P9).
func Verify(root api.Hash, key api.Key, proof []string) (string, bool, api.Fault) {
	value, had, err := tree.Verify(root, key, proof)
	return value, had, fault.Tell(err)
}

// Extract finds two nodes that are different (P10).
func (t *Tree) Extract(key api.Key, proof []string) (string, string, bool) {
	return t.nodes.Extract(key, proof)
}

// Witness shows the parts of some keys (P11).
func (t *Tree) Witness(keys []api.Key) string { return t.nodes.Witness(keys) }

// Whole shows all that there is (P11).
func (t *Tree) Whole() string { return t.nodes.Whole() }

// Open makes a map, or a part of one, of a witness (P12).
func Open(root api.Hash, witness string) (*Tree, api.Fault) {
	nodes, err := tree.Open(root, witness)
	if err != nil {
		return nil, fault.Tell(err)
	}
	return &Tree{nodes: nodes}, api.Fault{}
}

// EncodeAccount gives an account's code (P13).
func EncodeAccount(a api.Account) string { return account.Encode(a) }

// DecodeAccount gives the account that has a code (P13).
func DecodeAccount(code string) (api.Account, api.Fault) {
	a, err := account.Decode(code)
	return a, fault.Tell(err)
}

// VerifyStorage reads a proof of an account and one of its storage (P14).
func VerifyStorage(root api.Hash, address api.Address, slot api.Key, first []string, second []string) (string, bool, api.Fault) {
	value, had, err := storage.Verify(root, address, slot, first, second)
	return value, had, fault.Tell(err)
}
