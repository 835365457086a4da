package tree

import (
	"twigs/api"
	"twigs/item"
	"twigs/nibbles"
)

// leaf has the value of one path.
type leaf struct {
	worked
	path  string
	value string
}

func (l *leaf) code() string {
	items := item.AppendText(nil, nibbles.Code(l.path, true))
	return string(item.AppendList(nil, item.AppendText(items, l.value)))
}

func (l *leaf) reference() string { return l.work(l.code) }

func (l *leaf) behind(path string) (node, error) {
	return &leaf{path: path + l.path, value: l.value}, nil
}

func (l *leaf) fits(depth int) bool { return depth+len(l.path) == api.KeyNibbles }

func (l *leaf) operations(witness []byte, _ wanted) []byte {
	witness = appendPath(append(witness, api.OpLeaf), l.path)
	return append(append(witness, byte(len(l.value))), l.value...)
}

func (l *leaf) put(rest, value string) node {
	n := nibbles.Common(l.path, rest)
	if n == len(rest) {
		return &leaf{path: rest, value: value}
	}
	parted := fork(l.path[n], &leaf{path: l.path[n+1:], value: l.value})
	return under(rest[:n], parted.put(rest[n:], value))
}
