package tree

import (
	"slices"
	"strings"
)

// way is that of a key: the nodes that it goes through, from the root on, and where it ends or meets a stub.
type way struct {
	through []turn
	end     node   // nil in the empty map alone
	rest    string // the key's nibbles from the end on
}

// turn is a node that a way goes through, and the nibbles by which it does.
type turn struct {
	at inner
	by string
}

// follow goes the way of a path.
func follow(root node, path string) way {
	w := way{end: root, rest: path}
	w.goOn()
	return w
}

// goOn goes from the end so far to where the way ends or meets a stub.
func (w *way) goOn() {
	for w.step() {
	}
}

// step goes from the end so far to the next node, and tells whether there was one.
func (w *way) step() bool {
	if at, ok := w.end.(inner); ok {
		next, count := at.next(w.rest)
		if next == nil {
			return false
		}
		w.through = append(w.through, turn{at: at, by: w.rest[:count]})
		w.end, w.rest = next, w.rest[count:]
		return true
	}
	return false
}

// met gives the stub that the way has met; nil, if it has met none.
func (w way) met() *stub {
	if end, ok := w.end.(*stub); ok {
		return end
	}
	return nil
}

// found gives the leaf that has the value of the way's key; nil, if it has none.
func (w way) found() *leaf {
	if end, ok := w.end.(*leaf); ok && end.path == w.rest {
		return end
	}
	return nil
}

// value gives the value of the way's key, and whether it has one. It is a copy, so that it shares no memory with the leaf.
func (w way) value() (string, bool) {
	if end := w.found(); end != nil {
		return strings.Clone(end.value), true
	}
	return "", false
}

// nodes gives all nodes on the way, from the root on; a stub is none of them.
func (w way) nodes() []shown {
	var all []shown
	for _, t := range w.through {
		all = append(all, t.at)
	}
	if end, ok := w.end.(shown); ok {
		all = append(all, end)
	}
	return all
}

// with gives the node that has a value for the way's key and stands where the way ends.
func (w way) with(value string) node {
	if end, ok := w.end.(shown); ok {
		return end.put(w.rest, value)
	}
	return &leaf{path: w.rest, value: value}
}

// ending gives the root of the tree that has another node, or none, where the way ends.
func (w way) ending(end node) (node, error) {
	for _, t := range slices.Backward(w.through) {
		changed, err := t.at.leading(t.by, end)
		if err != nil {
			return nil, err
		}
		end = changed
	}
	return end, nil
}
