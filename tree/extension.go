package tree

import (
	"strings"

	"twigs/api"
	"twigs/item"
	"twigs/nibbles"
)

// extension has the nibbles with which all paths below it begin.
type extension struct {
	worked
	path string
	tail node
}

// under gives a branch, or a stub that stands for one, with these nibbles ahead.
func under(path string, tail node) node {
	if path == "" {
		return tail
	}
	return &extension{path: path, tail: tail}
}

func (e *extension) code() string {
	items := item.AppendText(nil, nibbles.Code(e.path, false))
	return string(item.AppendList(nil, append(items, e.tail.reference()...)))
}

func (e *extension) reference() string { return e.work(e.code) }

func (e *extension) behind(path string) (node, error) {
	return &extension{path: path + e.path, tail: e.tail}, nil
}

func (e *extension) fits(depth int) bool {
	depth += len(e.path)
	return depth < api.KeyNibbles && e.tail.fits(depth)
}

func (e *extension) operations(witness []byte, w wanted) []byte {
	witness = w.behind(e.path).show(witness, e.tail)
	return appendPath(append(witness, api.OpExt), e.path)
}

func (e *extension) put(rest, value string) node {
	n := nibbles.Common(e.path, rest)
	parted := fork(e.path[n], under(e.path[n+1:], e.tail))
	return under(rest[:n], parted.put(rest[n:], value))
}

func (e *extension) next(rest string) (node, int) {
	if strings.HasPrefix(rest, e.path) {
		return e.tail, len(e.path)
	}
	return nil, 0
}

// What is left of a branch below may be a leaf or an extension, so it is put behind the path, not under it.
func (e *extension) leading(by string, next node) (node, error) { return next.behind(by) }
