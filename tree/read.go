package tree

import (
	"twigs/api"
	"twigs/fault"
	"twigs/item"
	"twigs/nibbles"
)

const (
	pathItems   = 2  // of a leaf or an extension
	branchItems = 17 // a node's for each nibble, and one that is always empty
)

// read gives the node whose form an item has behind that many nibbles, with those that stand in it; those of which it has the digest are stubs. The form of an item is seen to ahead of those in it.
func read(x item.Placed, depth int) (node, error) {
	if x.List && len(x.Items) == pathItems {
		return readPath(x, depth)
	}
	if x.List && len(x.Items) == branchItems {
		return readBranch(x, depth)
	}
	return nil, noNode(x)
}

// readPath reads a leaf or an extension.
func readPath(x item.Placed, depth int) (node, error) {
	first, other := x.Items[0], x.Items[1]
	if first.List {
		return nil, noNode(x)
	}
	path, isLeaf, err := nibbles.Unpack(first.Text)
	if err != nil {
		return nil, fault.Place{At: x.From, Err: fault.NoNode{Err: err}}
	}
	depth += len(path)
	if !isLeaf {
		return readExtension(x, path, depth)
	}
	if depth != api.KeyNibbles || other.List || !isValue(other.Text) {
		return nil, noNode(x)
	}
	return &leaf{path: path, value: other.Text}, nil
}

// readExtension reads an extension whose path ends at that depth.
func readExtension(x item.Placed, path string, depth int) (node, error) {
	other := x.Items[1]
	if path == "" || depth >= api.KeyNibbles || !isReference(other) {
		return nil, noNode(x)
	}
	if other.List && len(other.Items) != branchItems {
		return nil, noNode(x)
	}
	tail, err := readReference(other, depth)
	if err != nil {
		return nil, err
	}
	return &extension{path: path, tail: tail}, nil
}

func readBranch(x item.Placed, depth int) (node, error) {
	if depth >= api.KeyNibbles || !hasForks(x.Items) {
		return nil, noNode(x)
	}
	var b branch
	for nibble := range b.nodes {
		next := x.Items[nibble]
		if isEmpty(next) {
			continue
		}
		n, err := readReference(next, depth+1)
		if err != nil {
			return nil, err
		}
		b.nodes[nibble] = n
	}
	return &b, nil
}

// hasForks tells whether items are those of a branch: two references or more, and else nothing.
func hasForks(items []item.Placed) bool {
	last := len(items) - 1
	count := 0
	for _, x := range items[:last] {
		if isReference(x) {
			count++
		} else if !isEmpty(x) {
			return false
		}
	}
	return count >= 2 && isEmpty(items[last])
}

func isEmpty(x item.Placed) bool { return !x.List && x.Text == "" }

// isReference tells whether an item is a digest, or a list so short that it stands in place of one.
func isReference(x item.Placed) bool {
	if x.List {
		return x.To-x.From < hashBytes
	}
	return len(x.Text) == hashBytes
}

// readReference gives the node to which an item is the reference.
func readReference(x item.Placed, depth int) (node, error) {
	if x.List {
		return read(x, depth)
	}
	return hide(api.Hash([]byte(x.Text))), nil
}

// noNode says that an item has not the form of a node.
func noNode(x item.Placed) error {
	return fault.Place{At: x.From, Err: fault.Node}
}
