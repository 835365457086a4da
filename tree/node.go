package tree

import (
	"twigs/api"
	"twigs/digest"
	"twigs/item"
)

// node is a leaf, an extension or a branch. It is never changed: another content is another node, and what was worked out of the nodes that stay holds on.
type node interface {
	// code gives the node's code, out of the references to the nodes below it.
	code() string
	// behind gives the node of the same paths, each with these nibbles ahead.
	behind(path string) node
	// put gives the node that has a value more; the way of its path ends here.
	put(rest, value string) node

	reference(code func() string) string
	digest(code func() string) api.Hash
}

// inner is a node that others stand below.
type inner interface {
	node
	// next gives the node to which the way of these nibbles goes on, and how many of them lead to it; nil, if the way ends here.
	next(rest string) (node, int)
	// leading gives the node that has another one, or none, where these nibbles lead.
	leading(by string, next node) node
}

// worked is what was worked out of a node's code: the code of the reference to the node. Each kind of node embeds it. It is worked out once, when it is first asked for.
type worked struct {
	held string
}

// reference gives the code of the reference to the node that has this code.
func (w *worked) reference(code func() string) string {
	if w.held == "" {
		w.held = code()
		if len(w.held) >= len(api.Hash{}) {
			h := digest.Of(w.held)
			w.held = string(item.AppendText(nil, string(h[:])))
		}
	}
	return w.held
}

// digest gives the digest of the node's code.
func (w *worked) digest(code func() string) api.Hash {
	held := w.reference(code)
	if len(held) < len(api.Hash{}) {
		return digest.Of(held)
	}
	// A digest stands behind the one byte of its head.
	return api.Hash([]byte(held[1:]))
}
