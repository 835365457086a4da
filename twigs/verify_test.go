package twigs_test

import (
	"encoding/hex"
	"math/rand"
	"slices"
	"strings"
	"testing"

	"twigs/api"
	"twigs/twigs"
)

func TestP9WithoutANode(t *testing.T) {
	for _, proof := range [][]string{nil, {}} {
		for _, k := range partings {
			checkVerify(t, "the empty map", twigs.New().Root(), k, proof, "", false)
			checkFault(t, "no map's root", api.Hash{}, k, proof, api.Fault{Err: api.ErrShort})
			checkFault(t, "another map's root", rootOf(t, map[api.Key]string{k: "a"}), k, proof, api.Fault{Err: api.ErrShort})
		}
	}
	// The byte 128 has the root's digest, but is no node.
	checkFault(t, "the empty map, with a node", twigs.New().Root(), endOf(1), []string{"\x80"}, api.Fault{Err: api.ErrNode})
	checkFault(t, "the empty map, with another", twigs.New().Root(), endOf(1), []string{"\x81"}, api.Fault{Err: api.ErrDigest})
}

func TestP9WhereAWayEnds(t *testing.T) {
	for _, value := range []string{"a", xs(60)} {
		m := map[api.Key]string{endOf(0x01): value, endOf(0x02): value, endOf(0x50, 0x01): value, keyOf(0x51): value}
		for _, c := range []struct {
			what string
			key  api.Key
		}{
			{"at its leaf", endOf(0x01)},
			{"at its leaf, high up", keyOf(0x51)},
			{"at a leaf with another path", keyOf(0x51, 0x01)},
			{"at an extension with another path", keyOf(0x01)},
			{"at a lower one, by the last nibble", endOf(0x11)},
			{"at the root, a branch without such a node", keyOf(0x60)},
			{"at a lower branch without such a node", endOf(0x03)},
		} {
			own, had := m[c.key]
			checkVerify(t, c.what, rootOf(t, m), c.key, proofOf(t, m, c.key), own, had)
		}
	}
	one := map[api.Key]string{endOf(0x01): "a"}
	checkVerify(t, "one key", rootOf(t, one), endOf(0x01), proofOf(t, one, endOf(0x01)), "a", true)
	checkVerify(t, "one key, and another", rootOf(t, one), endOf(0x02), proofOf(t, one, endOf(0x02)), "", false)
}

// long is a map in which each node on a way is in the proof itself.
func long(t *testing.T) (api.Hash, api.Key, []string) {
	t.Helper()
	m := map[api.Key]string{endOf(0x01): xs(60), endOf(0x02): xs(61), endOf(0x50, 0x01): xs(62), keyOf(0x51): xs(63)}
	proof := proofOf(t, m, endOf(0x01))
	if len(proof) != 6 {
		t.Fatalf("the proof has %d nodes", len(proof))
	}
	return rootOf(t, m), endOf(0x01), proof
}

func TestP9TooFewAndTooMany(t *testing.T) {
	root, k, proof := long(t)
	for n := range proof {
		checkFault(t, "too few", root, k, proof[:n], api.Fault{Err: api.ErrShort, Node: n})
	}
	for _, more := range []string{"", "\x80", proof[0], proof[5], xs(api.MaxNode), xs(api.MaxNode + 1)} {
		checkFault(t, "too many", root, k, append(slices.Clone(proof), more), api.Fault{Err: api.ErrRest, Node: 6})
		checkFault(t, "two too many", root, k, append(slices.Clone(proof), more, more), api.Fault{Err: api.ErrRest, Node: 6})
	}
	// Another way ends further up in the same nodes.
	checkFault(t, "a branch", root, keyOf(0x60), proof, api.Fault{Err: api.ErrRest, Node: 1})
	checkFault(t, "an extension", root, keyOf(0x01), proof, api.Fault{Err: api.ErrRest, Node: 2})
	checkFault(t, "a lower branch", root, endOf(0x03), proof, api.Fault{Err: api.ErrRest, Node: 5})
}

func TestP9AnotherDigest(t *testing.T) {
	root, k, proof := long(t)
	for n, code := range proof {
		for at := range len(code) {
			changed := slices.Clone(proof)
			changed[n] = code[:at] + string([]byte{code[at] ^ 1}) + code[at+1:]
			checkFault(t, "a bit changed", root, k, changed, api.Fault{Err: api.ErrDigest, Node: n})
		}
	}
	checkFault(t, "another root", api.Hash{1}, k, proof, api.Fault{Err: api.ErrDigest})
	checkFault(t, "another key", root, endOf(0x02), proof, api.Fault{Err: api.ErrDigest, Node: 5})
}

// depths at which nodes can stand: at the root, below it, and at the end of a key.
var depths = []int{0, 1, 2, 62, 63, 64}

func TestP9MaxNode(t *testing.T) {
	for _, depth := range depths {
		for _, size := range []int{api.MaxNode - 1, api.MaxNode, api.MaxNode + 1, api.MaxItem, api.MaxItem + 1, 10000} {
			proof, root := leading(t, depth, xs(size))
			number := len(proof) - 1
			want, other := api.Fault{Err: api.ErrRest, Node: number, At: 1}, api.Fault{Err: api.ErrDigest, Node: number}
			if size > api.MaxNode {
				want = api.Fault{Err: api.ErrLong, Node: number}
				other = want
			}
			checkFault(t, "its own digest", root, endOf(), proof, want)
			proof[number] = strings.Repeat("y", size)
			checkFault(t, "another digest", root, endOf(), proof, other)
		}
	}
	// A node of MaxNode bytes that can be read has not the form.
	code := codeOf(t, list(text(xs(api.MaxNode-7)), text("")))
	proof, root := leading(t, 1, code)
	if len(code) == api.MaxNode {
		checkFault(t, "a list of MaxNode bytes", root, endOf(), proof, api.Fault{Err: api.ErrNode, Node: 1})
	} else {
		t.Errorf("the list has %d bytes", len(code))
	}
}

func TestP9WhatDecodeSays(t *testing.T) {
	for _, c := range []struct {
		code string
		err  api.Errno
		at   int
	}{
		{"", api.ErrShort, 0},
		{"\xc1", api.ErrShort, 0},
		{"\xc2\x80", api.ErrShort, 0},
		{"\xc1\x81", api.ErrShort, 1},
		{"\xc3\x20\xc1\x82", api.ErrShort, 3},
		{"\x81\x7f", api.ErrForm, 0},
		{"\xc2\x81\x05", api.ErrForm, 1},
		{"\xc4\x20\xb8\x01\x41", api.ErrForm, 2},
		{"\x80\x80", api.ErrRest, 1},
		{"\xc2\x20\x61\x61", api.ErrRest, 3},
		{"\xc6\xc5\xc4\xc3\xc2\xc1\xc0", api.ErrDeep, 6},
		{"\xc6\x20\xc4\xc3\xc2\xc1\xc0", api.ErrNode, 0},
		{"\xc7\x20\xc5\xc4\xc3\xc2\xc1\xc0", api.ErrDeep, 7},
	} {
		if _, f := twigs.Decode(c.code); c.err != api.ErrNode && f != (api.Fault{Err: c.err, At: c.at}) {
			t.Fatalf("Decode(%x): %+v", c.code, f)
		}
		for _, depth := range depths {
			proof, root := leading(t, depth, c.code)
			checkFault(t, hex.EncodeToString([]byte(c.code)), root, endOf(), proof, api.Fault{Err: c.err, Node: len(proof) - 1, At: c.at})
			checkFault(t, hex.EncodeToString([]byte(c.code)), root, endOf(), append(proof, "more"), api.Fault{Err: c.err, Node: len(proof) - 1, At: c.at})
		}
	}
}

// checkNode sees what Verify says of one node that stands behind that many nibbles: ErrNode at a place, or, with -1, that it has the form.
func checkNode(t *testing.T, what string, depth int, x api.Item, at int) {
	t.Helper()
	code := codeOf(t, x)
	proof, root := leading(t, depth, code)
	number := len(proof) - 1
	_, _, f := twigs.Verify(root, endOf(), proof)
	if at < 0 {
		// The way may go on to a node that is not there.
		if f != (api.Fault{}) && f != (api.Fault{Err: api.ErrShort, Node: number + 1}) {
			t.Errorf("%s, behind %d nibbles: %+v, want none", what, depth, f)
		}
	} else if f != (api.Fault{Err: api.ErrNode, Node: number, At: at}) {
		t.Errorf("%s, behind %d nibbles: %+v, want ErrNode in node %d at %d", what, depth, f, number, at)
	}
	if by := firstUnfit(t, x, depth, 0); by != at {
		t.Errorf("%s, behind %d nibbles: %d by the document's words, %d in the test", what, depth, by, at)
	}
}

func TestP9FormOfAnyNode(t *testing.T) {
	digest := text(xs(32))
	for _, depth := range depths {
		for n := range 21 {
			if n != 2 && n != 17 {
				checkNode(t, "so many digests", depth, list(slices.Repeat([]api.Item{digest}, n)...), 0)
			}
		}
		for n := 3; n < 60; n++ {
			if n != 17 {
				checkNode(t, "two digests among so many items", depth, list(append([]api.Item{digest, digest}, make([]api.Item, n-2)...)...), 0)
			}
		}
		for n := range 300 {
			checkNode(t, "so many empty texts", depth, list(make([]api.Item, n)...), 0)
		}
		checkNode(t, "a text", depth, text("v"), 0)
		checkNode(t, "the empty text", depth, text(""), 0)
		checkNode(t, "a digest", depth, digest, 0)
		checkNode(t, "a leaf in a list", depth, list(leafItem(t, noughts(64-depth), "v")), 0)
	}
}

func TestP9FormOfALeaf(t *testing.T) {
	for _, depth := range depths {
		left := 64 - depth
		leaf := func(path string, value api.Item) api.Item { return list(pathItem(t, path, true), value) }
		for n := range 70 {
			at := 0
			if n == left {
				at = -1
			}
			checkNode(t, "a path of some nibbles", depth, leaf(noughts(n), text("v")), at)
		}
		for n := range 140 {
			at := -1
			if n < 1 || n > api.MaxValue {
				at = 0
			}
			checkNode(t, "a value of some bytes", depth, leaf(noughts(left), text(xs(n))), at)
		}
		checkNode(t, "another path", depth, leaf(strings.Repeat("\x0f", left), text("v")), -1)
		checkNode(t, "a list for a value", depth, leaf(noughts(left), list()), 0)
		checkNode(t, "a list with a value", depth, leaf(noughts(left), list(text("v"))), 0)
		checkNode(t, "a node for a value", depth, leaf(noughts(left), leaf(noughts(left), text("v"))), 0)
		checkNode(t, "a list for a path", depth, list(list(), text("v")), 0)
		checkNode(t, "a list with a path", depth, list(list(pathItem(t, noughts(left), true)), text("v")), 0)
	}
}

func TestP9FirstOfTwoIsAPathsCode(t *testing.T) {
	for _, depth := range depths {
		checkNode(t, "no byte", depth, list(text(""), text("v")), 0)
		for v := range 256 {
			code := string([]byte{byte(v)}) + noughts((64-depth)/2)
			path, isLeaf, err := twigs.Unpack(code)
			at := 0
			if err == api.OK && isLeaf && depth+len(path) == 64 {
				at = -1
			}
			checkNode(t, "a first byte", depth, list(text(code), text("v")), at)
		}
	}
}

func TestP9FormOfAnExtension(t *testing.T) {
	digest := text(xs(32))
	for _, depth := range depths {
		for n := range 70 {
			at := -1
			if n < 1 || depth+n > 63 {
				at = 0
			}
			checkNode(t, "a path of some nibbles", depth, list(pathItem(t, noughts(n), false), digest), at)
			checkNode(t, "another path", depth, list(pathItem(t, strings.Repeat("\x0e", n), false), digest), at)
		}
		if depth > 62 {
			continue
		}
		path := pathItem(t, noughts(63-depth), false)
		for n := range 70 {
			at := 0
			if n == 32 {
				at = -1
			}
			checkNode(t, "a text of some bytes", depth, list(path, text(xs(n))), at)
		}
		leaf := leafItem(t, "", "v")
		checkNode(t, "a branch", depth, list(path, wide(leaf, leaf)), -1)
		checkNode(t, "a leaf", depth, list(path, leaf), 0)
		checkNode(t, "a list of 16", depth, list(path, list(make([]api.Item, 16)...)), 0)
		checkNode(t, "a list of 18", depth, list(path, list(make([]api.Item, 18)...)), 0)
		checkNode(t, "the empty list", depth, list(path, list()), 0)
		checkNode(t, "an extension", depth, list(path, list(pathItem(t, "\x00", false), text(""))), 0)
		// 31 bytes, then 32.
		checkNode(t, "a branch of 31 bytes", depth, list(path, wide(leafItem(t, "", xs(9)), leaf)), -1)
		checkNode(t, "a branch of 32 bytes", depth, list(path, wide(leafItem(t, "", xs(10)), leaf)), 0)
		checkNode(t, "a branch of digests", depth, list(path, wide(digest, digest)), 0)
	}
}

func TestP9FormOfABranch(t *testing.T) {
	digest := text(xs(32))
	for _, depth := range depths {
		at := func(ok bool) int {
			if ok && depth <= 63 {
				return -1
			}
			return 0
		}
		for n := range 17 {
			checkNode(t, "so many digests", depth, wide(slices.Repeat([]api.Item{digest}, n)...), at(n >= 2))
		}
		for n := range 70 {
			x := wide(digest, text(""), digest, text(xs(n)))
			checkNode(t, "a text of some bytes", depth, x, at(n == 0 || n == 32))
			x.Items[3], x.Items[16] = text(""), text(xs(n))
			checkNode(t, "a last item of some bytes", depth, x, at(n == 0))
		}
		last := wide(digest, digest)
		last.Items[16] = list()
		checkNode(t, "a list for the last item", depth, last, 0)
		last.Items[16] = leafItem(t, noughts(63-min(depth, 63)), "v")
		checkNode(t, "a leaf for the last item", depth, last, 0)
		long := list(pathItem(t, noughts(63-min(depth, 63)), true), text(xs(40)))
		checkNode(t, "a list of 32 bytes or more", depth, wide(digest, long), 0)
		for nibble := range 15 {
			x := wide()
			x.Items[nibble], x.Items[15] = digest, digest
			checkNode(t, "two digests", depth, x, at(true))
			x.Items[15] = text("")
			checkNode(t, "one digest", depth, x, 0)
		}
	}
}

// What is said of lists within a node: at their own places, and at their own depths.
func TestP9FormOfListsWithin(t *testing.T) {
	leaf, digest := leafItem(t, "", "v"), text(xs(32))
	one := func(x api.Item) api.Item { return leafItem(t, "\x00", x.Text) }
	deep := list(pathItem(t, "\x00\x00", false), wide(leaf, leaf))
	for _, c := range []struct {
		what  string
		depth int
		x     api.Item
		at    int
	}{
		{"leaves at the end", 63, wide(leaf, leaf), -1},
		{"leaves one too high", 62, wide(leaf, leaf), 1},
		{"leaves one too far down", 63, wide(one(text("v")), leaf), 1},
		{"a leaf of 31 bytes", 63, wide(leafItem(t, "", xs(28)), leaf), -1},
		{"a leaf of 32 bytes", 63, wide(leafItem(t, "", xs(29)), leaf), 0},
		{"a leaf without a value", 63, wide(leaf, digest, list(text("\x20"), text(""))), 1 + 3 + 33},
		{"the empty list", 63, wide(leaf, list(), leaf), 1 + 3},
		{"a list of one", 63, wide(leaf, list(text("v"))), 1 + 3},
		{"a list of three", 63, wide(leaf, list(text("\x20"), text("v"), text("v"))), 1 + 3},
		{"no path's code", 63, wide(leaf, list(text("\x40"), text("v"))), 1 + 3},
		{"a list for a path", 63, wide(leaf, list(list(text("\x20")), text("v"))), 1 + 3},
		{"a list for a value", 63, wide(leaf, list(text("\x20"), leaf)), 1 + 3},
		{"two wrong ones: the first counts", 63, wide(leaf, list(), list()), 1 + 3},
		{"behind other items", 63, wide(text(""), leaf, text(""), text(""), leaf, text(""), list()), 1 + 1 + 3 + 1 + 1 + 3 + 1},
		{"for the last nibble", 63, list(append(append([]api.Item{leaf, leaf}, make([]api.Item, 13)...), list(), text(""))...), 1 + 6 + 13},
		{"outer and inner: the outer counts", 63, wide(list(), text("v")), 0},
		{"a branch in a branch", 62, wide(wide(leaf, leaf), one(text("v"))), -1},
		{"a branch in a branch, too far down", 63, wide(wide(leaf, leaf), leaf), 1},
		{"a branch in a branch, too high", 61, wide(wide(leaf, leaf), digest), 2 + 1},
		{"an inner branch of one", 62, wide(wide(leaf), one(text("v"))), 1},
		{"an inner branch with a value", 62, wide(digest, list(append(append([]api.Item{leaf, leaf}, make([]api.Item, 14)...), text("v"))...)), 2 + 33},
		{"wrong in the first's inner, and in the second", 62, wide(wide(leaf, list()), list()), 1 + 1 + 3},
		{"the second alone", 62, wide(wide(leaf, leaf), list()), 1 + 22},
		{"an extension in a branch", 60, wide(deep, digest), -1},
		{"an extension in a branch, one too high", 59, wide(deep, digest), 2 + 1 + 3 + 1},
		{"an extension in a branch, one too far down", 61, wide(deep, digest), 2},
		{"an extension in a branch, two too far down", 62, wide(deep, digest), 2},
		{"an inner extension of a leaf", 60, wide(digest, list(pathItem(t, "\x00\x00", false), leaf)), 1 + 33},
		{"an inner extension of nothing", 62, wide(digest, list(text("\x00"), wide(leaf, leaf))), 2 + 33},
		{"an inner extension of a text", 60, wide(digest, list(pathItem(t, "\x00", false), text(xs(20)))), 2 + 33},
		{"in an inner extension's branch", 60, wide(digest, list(pathItem(t, "\x00\x00", false), wide(list(), leaf))), 2 + 33 + 1 + 3 + 1},
		{"an extension's branch", 1, list(pathItem(t, noughts(62), false), wide(leaf, leaf)), -1},
		{"an extension's branch of one", 0, list(pathItem(t, noughts(63), false), wide(leaf)), 1 + 33},
		{"an extension's branch, too high", 0, list(pathItem(t, noughts(62), false), wide(leaf, leaf)), 1 + 33 + 1},
		{"an extension's branch in a branch", 61, list(pathItem(t, "\x00", false), wide(wide(leaf, list()), one(text("v")))), 0},
	} {
		checkNode(t, c.what, c.depth, c.x, c.at)
	}
}

// A list off the key's way is looked at all the same; where the way ends, or whether more nodes come, comes behind that.
func TestP9FormComesAheadOfTheWay(t *testing.T) {
	leaf := leafItem(t, "", "v")
	x := wide(leaf, list(text("\x20"), text("")), leaf)
	proof, root := leading(t, 63, codeOf(t, x))
	want := api.Fault{Err: api.ErrNode, Node: 2, At: 4}
	for nibble := range byte(16) {
		checkFault(t, "off the way", root, endOf(nibble), proof, want)
		checkFault(t, "off the way, and more", root, endOf(nibble), append(slices.Clone(proof), "more"), want)
	}
	// Nodes off the way of this key are not looked at.
	checkFault(t, "another way", root, endOf(0x10), proof, api.Fault{Err: api.ErrDigest, Node: 2})
	checkFault(t, "a way that ends ahead of it", root, keyOf(0x10), proof, api.Fault{Err: api.ErrRest, Node: 1})
}

// The first error that applies is told: of each two that apply, in the order in which P9 names them.
func TestP9OrderOfErrors(t *testing.T) {
	root, k, proof := long(t)
	for n := range proof {
		for _, c := range []struct {
			code string
			want api.Errno
		}{
			{"\xc1" + xs(api.MaxNode), api.ErrLong},
			{"\xc1", api.ErrDigest},
			{"\xc0\xc0", api.ErrDigest},
			{"\xc0", api.ErrDigest},
		} {
			changed := slices.Clone(proof)
			changed[n] = c.code
			checkFault(t, "in one node", root, k, changed, api.Fault{Err: c.want, Node: n})
			checkFault(t, "and then none", root, k, changed[:n+1], api.Fault{Err: c.want, Node: n})
			for later := n + 1; later < len(proof); later++ {
				changed[later] = xs(api.MaxNode + 1)
			}
			checkFault(t, "in one node and the later ones", root, k, changed, api.Fault{Err: c.want, Node: n})
		}
	}
}

// The document asks nothing of a node that a digest leads to but its form: not that it is a branch below an extension, not that it has 32 bytes.
func TestP9WhatADigestLeadsTo(t *testing.T) {
	leaf := codeOf(t, leafItem(t, "", "v"))
	proof, root := leading(t, 64, leaf)
	checkVerify(t, "a short leaf below a branch", root, endOf(), proof, "v", true)
	below := codeOf(t, leafItem(t, noughts(61), "v"))
	second := codeOf(t, list(pathItem(t, "\x00", false), hashItem(below)))
	first := codeOf(t, list(pathItem(t, "\x00\x00", false), hashItem(second)))
	checkVerify(t, "an extension below an extension, a leaf below that", twigs.Digest(first), endOf(), []string{first, second, below}, "v", true)
	checkVerify(t, "and another key", twigs.Digest(first), endOf(1), []string{first, second, below}, "", false)
	checkVerify(t, "and one that parts", twigs.Digest(first), keyOf(0, 0x10), []string{first, second}, "", false)
}

// The way goes through lists that stand in one another in one node.
func TestP9ThroughListsWithinANode(t *testing.T) {
	m := map[api.Key]string{endOf(0, 0x01): "a", endOf(0, 0x02): "b", endOf(1, 0): xs(50)}
	for _, c := range []struct {
		key   api.Key
		nodes int
	}{
		{endOf(0, 0x01), 2}, {endOf(0, 0x02), 2}, {endOf(0, 0x03), 2}, {endOf(0, 0x11), 2},
		{endOf(1, 0), 3}, {endOf(1, 1), 3}, {endOf(2, 0), 2}, {keyOf(1), 1},
	} {
		proof := proofOf(t, m, c.key)
		if len(proof) != c.nodes {
			t.Errorf("the proof of %x has %d nodes", c.key, len(proof))
		}
		checkVerify(t, "a branch in an extension in a branch", rootOf(t, m), c.key, proof, m[c.key], m[c.key] != "")
	}
}

// pick gives one of some things.
func pick[T any](r *rand.Rand, all ...T) T { return all[r.Intn(len(all))] }

// drawnItem gives an item that has the form of a node at a depth, or nearly so; where it has a digest, that is of the code below.
func drawnItem(t *testing.T, r *rand.Rand, depth, lists int, below string) api.Item {
	left := max(0, 64-depth+pick(r, 0, 0, 0, 0, 0, 0, 0, 1, -1))
	if depth > 60 && r.Intn(3) > 0 || depth >= 64 || lists > 2 {
		return list(pathItem(t, noughts(left)[:left], r.Intn(12) > 0), text(xs(pick(r, 1, 2, 3, 9, 28, 100, 0, 101))))
	}
	next := func(by int) api.Item {
		if depth+by >= 60 && r.Intn(2) == 0 {
			return drawnItem(t, r, depth+by, lists+1, below)
		}
		return hashItem(below)
	}
	if r.Intn(3) == 0 {
		n := pick(r, 1, 2, min(left, 63), max(0, 63-depth), 0)
		return list(pathItem(t, noughts(n), r.Intn(15) == 0), next(n))
	}
	x := wide()
	for range 2 + r.Intn(3) {
		x.Items[pick(r, 0, 0, 0, 1, 2, 15)] = next(1)
	}
	if r.Intn(12) == 0 {
		x.Items[r.Intn(17)] = pick(r, text("v"), list(), text(xs(31)), leafItem(t, "", "v"))
	}
	if r.Intn(20) == 0 {
		x.Items = x.Items[:pick(r, 2, 16)]
	}
	return x
}

// Drawn chains of nodes, good and bad ones, are answered as the document's words have it.
func TestP9DrawnNodes(t *testing.T) {
	r := rand.New(rand.NewSource(13))
	told := map[api.Errno]int{}
	for range 12000 {
		depth := pick(r, 58, 59, 60, 61, 62, 63, 64)
		low := codeOf(t, drawnItem(t, r, min(64, depth+1+r.Intn(3)), 0, "\x80"))
		code := codeOf(t, drawnItem(t, r, depth, 0, low))
		proof, root := leading(t, depth, code)
		if r.Intn(2) == 0 {
			proof = append(proof, low)
		}
		k := endOf(pick[byte](r, 0, 0, 0, 1, 0x10))
		value, had, f := twigs.Verify(root, k, proof)
		wantValue, wantHad, want := byWords(t, root, k, proof)
		if value != wantValue || had != wantHad || f != want {
			t.Fatalf("Verify(%x, %x) = %q, %v, %+v, want %q, %v, %+v", k, proof, value, had, f, wantValue, wantHad, want)
		}
		told[f.Err]++
		if f.Err == api.ErrNode && f.At > 0 {
			told[-1]++
		}
		if had {
			told[-2]++
		}
	}
	for _, err := range []api.Errno{-2, -1, api.OK, api.ErrShort, api.ErrNode, api.ErrDigest, api.ErrRest} {
		if told[err] < 100 {
			t.Errorf("%d was told only %d times", err, told[err])
		}
	}
}

func TestP1VerifyOfAllTexts(t *testing.T) {
	check := func(code string) {
		t.Helper()
		for _, depth := range []int{0, 1, 64} {
			proof, root := leading(t, depth, code)
			value, had, f := twigs.Verify(root, endOf(), proof)
			if f == (api.Fault{}) || value != "" || had || f.Proof != 0 || f.Node != len(proof)-1 || f.At < 0 || f.At > len(code) {
				t.Errorf("%.40x: Verify = %q, %v, %+v", code, value, had, f)
			}
		}
	}
	for _, code := range shortTexts(edges, 2) {
		check(code)
	}
	for v := range 256 {
		one := string([]byte{byte(v)})
		for _, n := range []int{1, 2, 3, 17, 18, 19, 56, 57, 700, 701} {
			check(strings.Repeat(one, n))
		}
	}
	many := slices.Repeat([]string{""}, 100000)
	checkFault(t, "many texts", api.Hash{}, endOf(), many, api.Fault{Err: api.ErrDigest})
	inTime(t, func() { twigs.Verify(api.Hash{}, endOf(), []string{xs(100 << 20)}) })
}
