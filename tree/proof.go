package tree

import (
	"strings"

	"twigs/api"
	"twigs/digest"
	"twigs/fault"
	"twigs/item"
	"twigs/nibbles"
)

// Prove gives the codes of the nodes on a key's way: of the root, and of each to which the reference is a digest.
func (t *Tree) Prove(key api.Key) ([]string, error) {
	w, err := t.way(key)
	if err != nil {
		return nil, err
	}
	var proof []string
	for _, n := range w.nodes() {
		code := n.code()
		if len(proof) == 0 || len(code) >= hashBytes {
			proof = append(proof, code)
		}
	}
	return proof, nil
}

// Verify goes a key's way through the nodes of a proof, and gives the key's value, and whether it has one, in the map that has this root.
func Verify(root api.Hash, key api.Key, proof []string) (string, bool, error) {
	if len(proof) == 0 && root == digest.Of(emptyCode()) {
		return "", false, nil
	}
	w := follow(hide(root), nibbles.OfKey(key))
	number := 0
	for w.met() != nil {
		if err := w.open(proof[number:]); err != nil {
			return "", false, fault.InNode{Node: number, Err: err}
		}
		number++
	}
	if number < len(proof) {
		return "", false, fault.InNode{Node: number, Err: fault.Rest}
	}
	value, had := w.value()
	return value, had, nil
}

// open goes on from the stub that the way has met, by the first of the nodes that are left of a proof.
func (w *way) open(left []string) error {
	if len(left) == 0 {
		return fault.Short
	}
	end, err := show(left[0], digestOf(w.end), api.KeyNibbles-len(w.rest))
	if err != nil {
		return err
	}
	w.end = end
	w.goOn()
	return nil
}

// show gives the node that has this code and stands behind that many nibbles, if it has the digest that is wanted.
func show(code string, wanted api.Hash, depth int) (node, error) {
	if len(code) > api.MaxNode {
		return nil, fault.Long
	}
	if digest.Of(code) != wanted {
		return nil, fault.Digest
	}
	x, err := item.Decode(code)
	if err != nil {
		return nil, err
	}
	return read(x, depth)
}

// Extract gives the two first nodes that are different in what Prove gives and in another proof, and whether they have one digest.
func (t *Tree) Extract(key api.Key, proof []string) (string, string, bool) {
	own, err := t.Prove(key)
	if err != nil {
		return "", "", false
	}
	own, proof = orEmpty(own), orEmpty(proof)
	for i := range min(len(own), len(proof)) {
		if own[i] != proof[i] {
			return own[i], strings.Clone(proof[i]), digest.Of(own[i]) == digest.Of(proof[i])
		}
	}
	return "", "", false
}

// orEmpty gives the nodes of a proof; where it has none, what stands for the empty map's.
func orEmpty(proof []string) []string {
	if len(proof) == 0 {
		return []string{emptyCode()}
	}
	return proof
}
