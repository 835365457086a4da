package tree

import (
	"strings"

	"twigs/api"
	"twigs/nibbles"
)

// Witness gives the operations of the part of the tree that shows the ways of these keys.
func (t *Tree) Witness(keys []api.Key) string {
	var w wanted
	for _, key := range keys {
		w.paths = append(w.paths, nibbles.OfKey(key))
	}
	return t.witness(w)
}

// Whole gives the operations of all of the tree.
func (t *Tree) Whole() string { return t.witness(wanted{all: true}) }

func (t *Tree) witness(w wanted) string {
	if t.root == nil {
		return string([]byte{api.OpEmpty})
	}
	return string(w.show(nil, t.root))
}

// wanted says what a witness shows from a node on: all, or the ways of the keys that lead to the node.
type wanted struct {
	all   bool
	paths []string // what is left of the keys' paths
}

// behind says what is wanted of the node to which these nibbles lead.
func (w wanted) behind(by string) wanted {
	left := wanted{all: w.all}
	for _, path := range w.paths {
		if rest, ok := strings.CutPrefix(path, by); ok {
			left.paths = append(left.paths, rest)
		}
	}
	return left
}

// show writes the operations of a node. One that stands in another is not hidden: it has no digest there that could stand for it.
func (w wanted) show(witness []byte, n node) []byte {
	if w.all || len(w.paths) > 0 || len(n.reference()) < hashBytes {
		return n.operations(witness, w)
	}
	return hide(digestOf(n)).operations(witness, w)
}

// appendPath writes how many nibbles a path has, and the nibbles.
func appendPath(witness []byte, path string) []byte {
	return nibbles.AppendPairs(append(witness, byte(len(path))), path)
}
