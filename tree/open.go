package tree

import (
	"twigs/api"
	"twigs/fault"
)

// Open gives the map, or the part of one, whose operations a witness has, if it has this root.
func Open(root api.Hash, witness string) (Tree, error) {
	if len(witness) > api.MaxWitness {
		return Tree{}, fault.Long
	}
	var made stack
	r := reader{left: witness}
	for r.left != "" {
		at := len(witness) - len(r.left)
		if err := made.next(&r); err != nil {
			return Tree{}, fault.Place{At: at, Err: err}
		}
	}
	t, err := made.tree(root)
	if err != nil {
		return Tree{}, fault.Place{At: len(witness), Err: err}
	}
	return t, nil
}

// stack has the nodes that were made and not yet taken; nil among them is the empty map.
type stack struct {
	nodes []node
}

// next reads an operation and carries it out.
func (s *stack) next(r *reader) error {
	op, err := r.operation()
	if err != nil {
		return err
	}
	from := len(s.nodes) - op.takes
	if from < 0 {
		return fault.Stack
	}
	n, err := op.make(s.nodes[from:])
	if err != nil {
		return err
	}
	s.nodes = append(s.nodes[:from], n)
	return nil
}

// tree gives what was made, if it is one whole with this root. How deep a node stands is known only now; what is too deep has no root that would be worth working out.
func (s *stack) tree(root api.Hash) (Tree, error) {
	if len(s.nodes) != 1 {
		return Tree{}, fault.Stack
	}
	t := Tree{root: s.nodes[0]}
	if t.root != nil && !t.root.fits(0) {
		return Tree{}, fault.Node
	}
	if t.Root() != root {
		return Tree{}, fault.Digest
	}
	return t, nil
}
