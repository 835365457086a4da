// Package tree has maps, laid out as trees of nodes, and the proofs and witnesses of what they have.
package tree

import (
	"strings"

	"twigs/api"
	"twigs/digest"
	"twigs/fault"
	"twigs/item"
	"twigs/nibbles"
)

// Tree is a map, or a part of one. The zero Tree is the empty map.
type Tree struct {
	root node // nil, if the map is empty
}

// way gives that of a key. Nothing can be said or done at a stub that it meets, so that is an error.
func (t *Tree) way(key api.Key) (way, error) {
	w := follow(t.root, nibbles.OfKey(key))
	if w.met() != nil {
		return way{}, fault.Stub
	}
	return w, nil
}

// Get gives a key's value, and whether it has one.
func (t *Tree) Get(key api.Key) (string, bool, error) {
	w, err := t.way(key)
	if err != nil {
		return "", false, err
	}
	value, had := w.value()
	return value, had, nil
}

// Put gives a key a value.
func (t *Tree) Put(key api.Key, value string) error {
	if !isValue(value) {
		return fault.Value
	}
	w, err := t.way(key)
	if err != nil {
		return err
	}
	return t.change(w, w.with(strings.Clone(value)))
}

// isValue tells whether a key may have this text.
func isValue(text string) bool { return text != "" && len(text) <= api.MaxValue }

// Delete takes a key's value out, and tells whether it had one.
func (t *Tree) Delete(key api.Key) (bool, error) {
	w, err := t.way(key)
	if err != nil || w.found() == nil {
		return false, err
	}
	if err := t.change(w, nil); err != nil {
		return false, err
	}
	return true, nil
}

// change puts another node, or none, where a way ends.
func (t *Tree) change(w way, end node) error {
	root, err := w.ending(end)
	if err != nil {
		return err
	}
	t.root = root
	return nil
}

// Root gives the digest by which the map is bound.
func (t *Tree) Root() api.Hash {
	if t.root == nil {
		return digest.Of(emptyCode())
	}
	return digestOf(t.root)
}

// emptyCode stands for the code of a root, where there is none.
func emptyCode() string { return string(item.AppendText(nil, "")) }
