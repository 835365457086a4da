// Package tree has maps, laid out as trees of nodes.
package tree

import (
	"strings"

	"twigs/api"
	"twigs/digest"
	"twigs/fault"
	"twigs/item"
	"twigs/nibbles"
)

// Tree is a map. The zero Tree is the empty one.
type Tree struct {
	root node // nil, if the map is empty
}

// Get gives a key's value, and whether it has one.
func (t *Tree) Get(key api.Key) (string, bool) {
	if found := follow(t.root, nibbles.OfKey(key)).found(); found != nil {
		return strings.Clone(found.value), true
	}
	return "", false
}

// Put gives a key a value.
func (t *Tree) Put(key api.Key, value string) error {
	if value == "" || len(value) > api.MaxValue {
		return fault.Value
	}
	value = strings.Clone(value)
	w := follow(t.root, nibbles.OfKey(key))
	if w.end == nil {
		t.root = &leaf{path: w.rest, value: value}
	} else {
		t.root = w.ending(w.end.put(w.rest, value))
	}
	return nil
}

// Delete takes a key's value out, and tells whether it had one.
func (t *Tree) Delete(key api.Key) bool {
	w := follow(t.root, nibbles.OfKey(key))
	if w.found() == nil {
		return false
	}
	t.root = w.ending(nil)
	return true
}

// Root gives the digest by which the map is bound.
func (t *Tree) Root() api.Hash {
	if t.root == nil {
		return digest.Of(string(item.AppendText(nil, "")))
	}
	return t.root.digest(t.root.code)
}
