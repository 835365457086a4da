package tree

import (
	"twigs/api"
	"twigs/digest"
	"twigs/item"
)

// hashBytes is how many bytes a digest has; a node whose code has as many, or more, is referred to by its digest.
const hashBytes = len(api.Hash{})

// node is a leaf, an extension, a branch or a stub. It is never changed: another content is another node, and what was worked out of the nodes that stay holds on.
type node interface {
	// reference gives the code of the reference to the node.
	reference() string
	// behind gives the node of the same paths, each with these nibbles ahead.
	behind(path string) (node, error)
	// fits tells whether all paths that are known end where those of keys do, if the node stands behind that many nibbles.
	fits(depth int) bool
	// operations writes those of a witness that shows the node, and below it what is wanted.
	operations(witness []byte, w wanted) []byte
}

// shown is a node that is known whole: any but a stub.
type shown interface {
	node
	// code gives the node's code, out of the references to the nodes below it.
	code() string
	// put gives the node that has a value more; the way of its path ends here.
	put(rest, value string) node
}

// inner is a node that others stand below.
type inner interface {
	shown
	// next gives the node to which the way of these nibbles goes on, and how many of them lead to it; nil, if the way ends here.
	next(rest string) (node, int)
	// leading gives the node that has another one, or none, where these nibbles lead.
	leading(by string, next node) (node, error)
}

// worked is what was worked out of a node's code: the code of the reference to the node. Each kind of node embeds it.
type worked struct {
	held string
}

// work gives the code of the reference to the node that has this code. It is worked out once, when it is first asked for.
func (w *worked) work(code func() string) string {
	if w.held == "" {
		w.held = code()
		if len(w.held) >= hashBytes {
			w.held = referenceBy(digest.Of(w.held))
		}
	}
	return w.held
}

// referenceBy gives the code of the reference to a node whose code has this digest, and is long enough for it.
func referenceBy(h api.Hash) string {
	return string(item.AppendText(nil, string(h[:])))
}

// digestOf gives the digest of a node's code.
func digestOf(n node) api.Hash {
	reference := n.reference()
	if len(reference) < hashBytes {
		return digest.Of(reference)
	}
	// A digest stands behind the one byte of its head.
	return api.Hash([]byte(reference[1:]))
}
