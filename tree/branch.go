package tree

import (
	"twigs/api"
	"twigs/item"
)

// branch has a node for each nibble with which one of its paths begins.
type branch struct {
	worked
	nodes [16]node
}

// fork gives a branch with one node, to which another is put at once.
func fork(nibble byte, next node) *branch { return (&branch{}).with(nibble, next) }

func (b *branch) code() string {
	var items []byte
	for _, next := range b.nodes {
		if next == nil {
			items = item.AppendText(items, "")
		} else {
			items = append(items, next.reference()...)
		}
	}
	return string(item.AppendList(nil, item.AppendText(items, "")))
}

func (b *branch) reference() string { return b.work(b.code) }

func (b *branch) behind(path string) (node, error) { return under(path, b), nil }

func (b *branch) fits(depth int) bool {
	if depth >= api.KeyNibbles {
		return false
	}
	for _, next := range b.nodes {
		if next != nil && !next.fits(depth+1) {
			return false
		}
	}
	return true
}

func (b *branch) operations(witness []byte, w wanted) []byte {
	var forks uint16
	for nibble, next := range b.nodes {
		if next != nil {
			forks |= 1 << nibble
			witness = w.behind(string([]byte{byte(nibble)})).show(witness, next)
		}
	}
	return append(witness, api.OpBranch, byte(forks), byte(forks>>8))
}

// with gives the branch that has another node, or none, for a nibble.
func (b *branch) with(nibble byte, next node) *branch {
	changed := branch{nodes: b.nodes}
	changed.nodes[nibble] = next
	return &changed
}

func (b *branch) put(rest, value string) node {
	return b.with(rest[0], &leaf{path: rest[1:], value: value})
}

func (b *branch) next(rest string) (node, int) { return b.nodes[rest[0]], 1 }

func (b *branch) leading(by string, next node) (node, error) {
	changed := b.with(by[0], next)
	if nibble, alone := changed.alone(); alone {
		return changed.nodes[nibble].behind(string([]byte{nibble}))
	}
	return changed, nil
}

// alone tells whether there is one node alone, and its nibble.
func (b *branch) alone() (byte, bool) {
	count, last := 0, 0
	for nibble, next := range b.nodes {
		if next != nil {
			count, last = count+1, nibble
		}
	}
	return byte(last), count == 1
}
