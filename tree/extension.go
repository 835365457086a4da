package tree

import (
	"strings"

	"twigs/item"
	"twigs/nibbles"
)

// extension has the nibbles with which all paths below it begin.
type extension struct {
	worked
	path string
	tail node
}

func (e *extension) code() string {
	items := item.AppendText(nil, nibbles.Code(e.path, false))
	return string(item.AppendList(nil, append(items, e.tail.reference(e.tail.code)...)))
}

func (e *extension) behind(path string) node {
	return &extension{path: path + e.path, tail: e.tail}
}

func (e *extension) put(rest, value string) node {
	n := nibbles.Common(e.path, rest)
	return fork(e.path[n], e.tail.behind(e.path[n+1:])).put(rest[n:], value).behind(rest[:n])
}

func (e *extension) next(rest string) (node, int) {
	if strings.HasPrefix(rest, e.path) {
		return e.tail, len(e.path)
	}
	return nil, 0
}

// What is left of a branch below may be a leaf or an extension, so it is put behind the path, not under it.
func (e *extension) leading(by string, next node) node { return next.behind(by) }
