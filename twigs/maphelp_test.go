package twigs_test

import (
	"maps"
	"slices"
	"strings"
	"testing"

	"twigs/api"
	"twigs/twigs"
)

// keyOf gives the key that has noughts behind these bytes.
func keyOf(first ...byte) api.Key {
	var k api.Key
	copy(k[:], first)
	return k
}

// endOf gives the key that has noughts ahead of these bytes.
func endOf(last ...byte) api.Key {
	var k api.Key
	copy(k[len(k)-len(last):], last)
	return k
}

func pathOf(k api.Key) string {
	var path []byte
	for _, b := range k {
		path = append(path, b/16, b%16)
	}
	return string(path)
}

// noughts is a path of that many nibbles 0, then others.
func noughts(n int, then ...byte) string { return strings.Repeat("\x00", n) + string(then) }

func codeOf(t *testing.T, x api.Item) string {
	t.Helper()
	code, err := twigs.Encode(x)
	if err != api.OK {
		t.Fatalf("Encode has error %d", err)
	}
	return code
}

func pathItem(t *testing.T, path string, leaf bool) api.Item {
	t.Helper()
	code, err := twigs.Pack(path, leaf)
	if err != api.OK {
		t.Fatalf("Pack has error %d", err)
	}
	return text(code)
}

// refTo gives the reference to the node of an item.
func refTo(t *testing.T, x api.Item) api.Item {
	t.Helper()
	code := codeOf(t, x)
	if len(code) < 32 {
		return x
	}
	h := twigs.Digest(code)
	return text(string(h[:]))
}

func leafItem(t *testing.T, path, value string) api.Item {
	t.Helper()
	return list(pathItem(t, path, true), text(value))
}

func extItem(t *testing.T, path string, x api.Item) api.Item {
	t.Helper()
	return list(pathItem(t, path, false), refTo(t, x))
}

func branchItem(t *testing.T, nodes map[byte]api.Item) api.Item {
	t.Helper()
	x := list(make([]api.Item, 17)...)
	for nibble, node := range nodes {
		x.Items[nibble] = refTo(t, node)
	}
	return x
}

// nodeItem gives the item of the node of some paths, word by word as the document has it: out of all of them at once, so that no order can be in it.
func nodeItem(t *testing.T, values map[string]string) api.Item {
	t.Helper()
	paths := slices.Sorted(maps.Keys(values))
	first, last := paths[0], paths[len(paths)-1]
	if len(paths) == 1 {
		return leafItem(t, first, values[first])
	}
	same := 0
	for first[same] == last[same] {
		same++
	}
	if same > 0 {
		behind := map[string]string{}
		for path, value := range values {
			behind[path[same:]] = value
		}
		return extItem(t, first[:same], nodeItem(t, behind))
	}
	parts := map[byte]map[string]string{}
	for path, value := range values {
		if parts[path[0]] == nil {
			parts[path[0]] = map[string]string{}
		}
		parts[path[0]][path[1:]] = value
	}
	nodes := map[byte]api.Item{}
	for nibble, part := range parts {
		nodes[nibble] = nodeItem(t, part)
	}
	return branchItem(t, nodes)
}

// rootOf gives the root that a map must have.
func rootOf(t *testing.T, m map[api.Key]string) api.Hash {
	t.Helper()
	if len(m) == 0 {
		return twigs.Digest("\x80")
	}
	values := map[string]string{}
	for k, value := range m {
		values[pathOf(k)] = value
	}
	return twigs.Digest(codeOf(t, nodeItem(t, values)))
}

func mustPut(t *testing.T, x *twigs.Tree, k api.Key, value string) {
	t.Helper()
	if err := x.Put(k, value); err != api.OK {
		t.Fatalf("Put(%x, %q) = %d", k, value, err)
	}
}

func mustDelete(t *testing.T, x *twigs.Tree, k api.Key, had bool) {
	t.Helper()
	if got, err := x.Delete(k); got != had || err != api.OK {
		t.Fatalf("Delete(%x) = %v, %d, want %v", k, got, err, had)
	}
}

// treeOf gives a tree with a map's values.
func treeOf(t *testing.T, m map[api.Key]string) *twigs.Tree {
	t.Helper()
	x := twigs.New()
	for k, value := range m {
		mustPut(t, x, k, value)
	}
	return x
}

// checkGet sees that a tree answers for each of the keys as the map has it.
func checkGet(t *testing.T, x *twigs.Tree, m map[api.Key]string, keys []api.Key) {
	t.Helper()
	for _, k := range keys {
		value, had, err := x.Get(k)
		want, wantHad := m[k]
		if value != want || had != wantHad || err != api.OK {
			t.Fatalf("Get(%x) = %q, %v, %d, want %q, %v", k, value, had, err, want, wantHad)
		}
	}
}

// checkRoot sees that a tree's root is the digest of that item's code.
func checkRoot(t *testing.T, what string, x *twigs.Tree, want api.Item) {
	t.Helper()
	if got := x.Root(); got != twigs.Digest(codeOf(t, want)) {
		t.Errorf("%s: Root() = %x", what, got)
	}
}
