package tree

import (
	"math/bits"
	"strings"

	"twigs/api"
	"twigs/fault"
	"twigs/nibbles"
)

// operation makes a node, or nil for the empty map, of the last nodes that were made.
type operation struct {
	takes int
	make  func(taken []node) (node, error)
}

// gives is the operation that takes no node.
func gives(n node) operation {
	return operation{make: func([]node) (node, error) { return n, nil }}
}

// reader reads a witness.
type reader struct {
	left string
}

// take gives the next bytes.
func (r *reader) take(count int) (string, error) {
	if len(r.left) < count {
		return "", fault.Short
	}
	taken := r.left[:count]
	r.left = r.left[count:]
	return taken, nil
}

// number gives the next byte.
func (r *reader) number() (int, error) {
	taken, err := r.take(1)
	if err != nil {
		return 0, err
	}
	return int(taken[0]), nil
}

// operation reads the next one. That it is whole is seen to ahead of what it says.
func (r *reader) operation() (operation, error) {
	kind, err := r.number()
	if err != nil {
		return operation{}, err
	}
	switch kind {
	case api.OpEmpty:
		return gives(nil), nil
	case api.OpLeaf:
		return r.leaf()
	case api.OpExt:
		return r.extension()
	case api.OpBranch:
		return r.branch()
	case api.OpStub:
		return r.stub()
	}
	return operation{}, fault.Op
}

func (r *reader) leaf() (operation, error) {
	written, err := r.path()
	if err != nil {
		return operation{}, err
	}
	value, err := r.value()
	if err != nil {
		return operation{}, err
	}
	path, err := written.read(api.KeyNibbles)
	if err != nil {
		return operation{}, err
	}
	if !isValue(value) {
		return operation{}, fault.Node
	}
	// The value is a copy, so that the tree does not keep the witness.
	return gives(&leaf{path: path, value: strings.Clone(value)}), nil
}

func (r *reader) value() (string, error) {
	count, err := r.number()
	if err != nil {
		return "", err
	}
	return r.take(count)
}

func (r *reader) extension() (operation, error) {
	written, err := r.path()
	if err != nil {
		return operation{}, err
	}
	path, err := written.read(api.KeyNibbles - 1)
	if err != nil {
		return operation{}, err
	}
	if path == "" {
		return operation{}, fault.Node
	}
	return operation{takes: 1, make: func(taken []node) (node, error) { return extend(path, taken[0]) }}, nil
}

// extend gives the extension of a node, if that is one which can stand below an extension.
func extend(path string, tail node) (node, error) {
	switch tail.(type) {
	case *branch, *stub:
		return &extension{path: path, tail: tail}, nil
	}
	return nil, fault.Node
}

func (r *reader) branch() (operation, error) {
	taken, err := r.take(2)
	if err != nil {
		return operation{}, err
	}
	forks := uint16(taken[0]) | uint16(taken[1])<<8
	count := bits.OnesCount16(forks)
	if count < 2 {
		return operation{}, fault.Node
	}
	return operation{takes: count, make: func(taken []node) (node, error) { return join(forks, taken) }}, nil
}

// join gives the branch that has these nodes, in their order, for the nibbles whose bits are set.
func join(forks uint16, taken []node) (node, error) {
	var b branch
	for _, next := range taken {
		if next == nil {
			return nil, fault.Node
		}
		b.nodes[bits.TrailingZeros16(forks)] = next
		forks &= forks - 1
	}
	return &b, nil
}

func (r *reader) stub() (operation, error) {
	taken, err := r.take(hashBytes)
	if err != nil {
		return operation{}, err
	}
	return gives(hide(api.Hash([]byte(taken)))), nil
}

// written is a path as a witness has it.
type written struct {
	count int
	pairs string
}

func (r *reader) path() (written, error) {
	count, err := r.number()
	if err != nil {
		return written{}, err
	}
	pairs, err := r.take(nibbles.PairBytes(count))
	if err != nil {
		return written{}, err
	}
	return written{count: count, pairs: pairs}, nil
}

// read gives the path, if it has no more nibbles than it may.
func (w written) read(most int) (string, error) {
	if w.count > most {
		return "", fault.Node
	}
	path, err := nibbles.Unpair(w.pairs, w.count)
	if err != nil {
		return "", fault.NoNode{Err: err}
	}
	return path, nil
}
