package tree

import "slices"

// way is that of a key: the nodes that it goes through, from the root on, and where it ends.
type way struct {
	through []turn
	end     node   // nil in the empty map alone
	rest    string // the key's nibbles from the end on
}

// turn is a node that a way goes through, and the nibbles by which it does.
type turn struct {
	at inner
	by string
}

// follow goes the way of a path.
func follow(root node, path string) way {
	w := way{end: root, rest: path}
	for w.step() {
	}
	return w
}

// step goes from the end so far to the next node, and tells whether there was one.
func (w *way) step() bool {
	if at, ok := w.end.(inner); ok {
		next, count := at.next(w.rest)
		if next == nil {
			return false
		}
		w.through = append(w.through, turn{at: at, by: w.rest[:count]})
		w.end, w.rest = next, w.rest[count:]
		return true
	}
	return false
}

// found gives the leaf that has the value of the way's key; nil, if it has none.
func (w way) found() *leaf {
	if end, ok := w.end.(*leaf); ok && end.path == w.rest {
		return end
	}
	return nil
}

// ending gives the root of the tree that has another node, or none, where the way ends.
func (w way) ending(end node) node {
	for _, t := range slices.Backward(w.through) {
		end = t.at.leading(t.by, end)
	}
	return end
}
