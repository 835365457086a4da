package twigs_test

import (
	"slices"
	"strings"
	"testing"

	"twigs/api"
	"twigs/twigs"
)

// byPath gives a map's values by the paths of its keys.
func byPath(m map[api.Key]string) map[string]string {
	values := map[string]string{}
	for k, value := range m {
		values[pathOf(k)] = value
	}
	return values
}

// behindPath gives the values of those paths that begin so, by what is behind that.
func behindPath(values map[string]string, path string) map[string]string {
	behind := map[string]string{}
	for p, value := range values {
		if strings.HasPrefix(p, path) {
			behind[p[len(path):]] = value
		}
	}
	return behind
}

// onWay gives the items of the nodes on the way of a path, word by word as the document has it.
func onWay(t *testing.T, values map[string]string, rest string) []api.Item {
	t.Helper()
	x := nodeItem(t, values)
	if len(values) == 1 {
		return []api.Item{x}
	}
	by := rest[:1]
	if len(x.Items) == 2 {
		by, _, _ = twigs.Unpack(x.Items[0].Text)
	}
	behind := behindPath(values, by)
	if !strings.HasPrefix(rest, by) || len(behind) == 0 {
		return []api.Item{x}
	}
	return append([]api.Item{x}, onWay(t, behind, rest[len(by):])...)
}

// proofOf gives the proof that a map must have of a key.
func proofOf(t *testing.T, m map[api.Key]string, k api.Key) []string {
	t.Helper()
	if len(m) == 0 {
		return nil
	}
	var proof []string
	for i, x := range onWay(t, byPath(m), pathOf(k)) {
		if code := codeOf(t, x); i == 0 || len(code) >= 32 {
			proof = append(proof, code)
		}
	}
	return proof
}

func mustProve(t *testing.T, x *twigs.Tree, k api.Key) []string {
	t.Helper()
	proof, err := x.Prove(k)
	if err != api.OK {
		t.Fatalf("Prove(%x) = %d", k, err)
	}
	return proof
}

// checkVerify sees what Verify answers.
func checkVerify(t *testing.T, what string, root api.Hash, k api.Key, proof []string, value string, had bool) {
	t.Helper()
	if got, gotHad, f := twigs.Verify(root, k, proof); got != value || gotHad != had || f != (api.Fault{}) {
		t.Errorf("%s: Verify = %q, %v, %+v, want %q, %v", what, got, gotHad, f, value, had)
	}
}

// checkFault sees with what fault Verify ends, and that there is nothing beside it.
func checkFault(t *testing.T, what string, root api.Hash, k api.Key, proof []string, want api.Fault) {
	t.Helper()
	if value, had, f := twigs.Verify(root, k, proof); value != "" || had || f != want {
		t.Errorf("%s: Verify = %q, %v, %+v, want %+v", what, value, had, f, want)
	}
}

// hashItem is the reference to a node that has this code, short or not.
func hashItem(code string) api.Item {
	h := twigs.Digest(code)
	return text(string(h[:]))
}

// wide is a branch's item with these items first.
func wide(items ...api.Item) api.Item {
	return list(append(slices.Clone(items), make([]api.Item, 17-len(items))...)...)
}

// leading gives the codes of nodes that lead the key of noughts to the node that has this code, behind that many nibbles (0, or up to 64), and the root.
func leading(t *testing.T, depth int, code string) ([]string, api.Hash) {
	t.Helper()
	proof := []string{code}
	other := text(xs(32))
	switch {
	case depth == 1:
		proof = []string{codeOf(t, wide(hashItem(code), other)), code}
	case depth > 1:
		low := codeOf(t, wide(hashItem(code), other))
		top := codeOf(t, list(pathItem(t, noughts(depth-1), false), hashItem(low)))
		proof = []string{top, low, code}
	}
	return proof, twigs.Digest(proof[0])
}

// headSize tells how many bytes the head of a list's code has.
func headSize(t *testing.T, x api.Item) int {
	t.Helper()
	size := len(codeOf(t, x))
	for _, y := range x.Items {
		size -= len(codeOf(t, y))
	}
	return size
}

// stands tells whether an item may stand for a node in another: as a digest, or as a short list.
func stands(t *testing.T, x api.Item) bool {
	t.Helper()
	return x.List && len(codeOf(t, x)) < 32 || !x.List && len(x.Text) == 32
}

// hasForm says what the document says of the form of a node at its depth, but for the lists within it.
func hasForm(t *testing.T, x api.Item, depth int) bool {
	t.Helper()
	if !x.List || len(x.Items) != 2 && len(x.Items) != 17 {
		return false
	}
	if len(x.Items) == 2 {
		first, other := x.Items[0], x.Items[1]
		path, isLeaf, err := twigs.Unpack(first.Text)
		if first.List || err != api.OK {
			return false
		}
		if isLeaf {
			return depth+len(path) == 64 && !other.List && len(other.Text) >= 1 && len(other.Text) <= api.MaxValue
		}
		return len(path) >= 1 && depth+len(path) <= 63 && stands(t, other) && (!other.List || len(other.Items) == 17)
	}
	count := 0
	for _, y := range x.Items[:16] {
		if stands(t, y) {
			count++
		} else if y.List || y.Text != "" {
			return false
		}
	}
	return depth <= 63 && count >= 2 && !x.Items[16].List && x.Items[16].Text == ""
}

// firstUnfit gives the place of the first item that has not the form; -1, if all have it.
func firstUnfit(t *testing.T, x api.Item, depth, at int) int {
	t.Helper()
	if !hasForm(t, x, depth) {
		return at
	}
	at += headSize(t, x)
	for i, y := range x.Items {
		steps := 1
		if len(x.Items) == 2 {
			path, _, _ := twigs.Unpack(x.Items[0].Text)
			steps = len(path)
		}
		if y.List {
			if unfit := firstUnfit(t, y, depth+steps, at); unfit >= 0 {
				return unfit
			}
		}
		at += len(codeOf(t, x.Items[i]))
	}
	return -1
}

// byWords is Verify, word by word as the document has it.
func byWords(t *testing.T, root api.Hash, k api.Key, proof []string) (string, bool, api.Fault) {
	t.Helper()
	if len(proof) == 0 && root == twigs.Digest("\x80") {
		return "", false, api.Fault{}
	}
	wanted, path, depth := text(string(root[:])), pathOf(k), 0
	for number := 0; ; number++ {
		if number == len(proof) {
			return "", false, api.Fault{Err: api.ErrShort, Node: number}
		}
		code := proof[number]
		if len(code) > api.MaxNode {
			return "", false, api.Fault{Err: api.ErrLong, Node: number}
		}
		if !sameItem(hashItem(code), wanted) {
			return "", false, api.Fault{Err: api.ErrDigest, Node: number}
		}
		x, f := twigs.Decode(code)
		if f != (api.Fault{}) {
			return "", false, api.Fault{Err: f.Err, Node: number, At: f.At}
		}
		if at := firstUnfit(t, x, depth, 0); at >= 0 {
			return "", false, api.Fault{Err: api.ErrNode, Node: number, At: at}
		}
		for x.List && depth < 65 {
			value, next, steps := stepByWords(x, path[depth:])
			if steps < 0 {
				if number+1 < len(proof) {
					return "", false, api.Fault{Err: api.ErrRest, Node: number + 1}
				}
				return value, value != "", api.Fault{}
			}
			x, depth = next, depth+steps
		}
		wanted = x
	}
}

// stepByWords gives the item to which the way goes on and by how many nibbles, or, with -1, the value at its end.
func stepByWords(x api.Item, rest string) (string, api.Item, int) {
	if len(x.Items) == 17 {
		next := x.Items[rest[0]]
		if !next.List && next.Text == "" {
			return "", api.Item{}, -1
		}
		return "", next, 1
	}
	path, isLeaf, _ := twigs.Unpack(x.Items[0].Text)
	if isLeaf && path == rest {
		return x.Items[1].Text, api.Item{}, -1
	}
	if isLeaf || !strings.HasPrefix(rest, path) {
		return "", api.Item{}, -1
	}
	return "", x.Items[1], len(path)
}
