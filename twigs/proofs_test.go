package twigs_test

import (
	"maps"
	"math/rand"
	"slices"
	"strings"
	"testing"
	"unsafe"

	"twigs/api"
	"twigs/twigs"
)

func TestP8TheEmptyMap(t *testing.T) {
	x := twigs.New()
	for _, k := range partings {
		if proof := mustProve(t, x, k); len(proof) != 0 {
			t.Errorf("Prove(%x) has %d nodes", k, len(proof))
		}
	}
	mustPut(t, x, endOf(1), "a")
	mustDelete(t, x, endOf(1), true)
	if proof := mustProve(t, x, endOf(1)); len(proof) != 0 {
		t.Errorf("behind the last Delete Prove has %d nodes", len(proof))
	}
}

func TestP8OneKey(t *testing.T) {
	for _, k := range partings {
		x := treeOf(t, map[api.Key]string{k: "a"})
		want := []string{codeOf(t, leafItem(t, pathOf(k), "a"))}
		for _, other := range partings {
			if proof := mustProve(t, x, other); !slices.Equal(proof, want) {
				t.Errorf("a map with %x alone: Prove(%x) = %x", k, other, proof)
			}
		}
	}
}

// The branch of two leaves stands in the extension itself.
func TestP8NodesWithinNodes(t *testing.T) {
	x := treeOf(t, map[api.Key]string{endOf(0x01): "a", endOf(0x02): "b"})
	whole := "\xf7\xa0\x10" + strings.Repeat("\x00", 31) + "\xd5\x80\xc2\x20a\xc2\x20b" + strings.Repeat("\x80", 14)
	for _, k := range []api.Key{endOf(0x01), endOf(0x02), endOf(0x03), endOf(0x11), keyOf(0x10)} {
		if proof := mustProve(t, x, k); !slices.Equal(proof, []string{whole}) {
			t.Errorf("Prove(%x) = %x", k, proof)
		}
	}
}

func TestP8WhereAWayEnds(t *testing.T) {
	long := xs(60)
	m := map[api.Key]string{endOf(0x01): long, endOf(0x02): long, endOf(0x50, 0x01): long, keyOf(0x51): long}
	low := branchItem(t, map[byte]api.Item{1: leafItem(t, "", long), 2: leafItem(t, "", long)})
	lowExt := extItem(t, noughts(2), low)
	mid := branchItem(t, map[byte]api.Item{0: lowExt, 5: leafItem(t, "\x00\x00\x01", long)})
	midExt := extItem(t, noughts(59), mid)
	top := branchItem(t, map[byte]api.Item{0: midExt, 5: leafItem(t, "\x01"+noughts(62), long)})
	x := treeOf(t, m)
	for _, c := range []struct {
		what string
		key  api.Key
		way  []api.Item
	}{
		{"at its leaf, far down", endOf(0x01), []api.Item{top, midExt, mid, lowExt, low, leafItem(t, "", long)}},
		{"at its leaf, high up", keyOf(0x51), []api.Item{top, leafItem(t, "\x01"+noughts(62), long)}},
		{"at a leaf with another path", keyOf(0x51, 0x01), []api.Item{top, leafItem(t, "\x01"+noughts(62), long)}},
		{"at an extension with another path", keyOf(0x01), []api.Item{top, midExt}},
		{"at a lower one, by the last nibble", endOf(0x11), []api.Item{top, midExt, mid, lowExt}},
		{"at the root, a branch without such a node", keyOf(0x60), []api.Item{top}},
		{"at a lower branch without such a node", endOf(0x03), []api.Item{top, midExt, mid, lowExt, low}},
	} {
		var want []string
		for _, node := range c.way {
			want = append(want, codeOf(t, node))
		}
		if proof := mustProve(t, x, c.key); !slices.Equal(proof, want) {
			t.Errorf("%s: %d nodes, want %d", c.what, len(proof), len(want))
		}
	}
}

// A node whose code has 31 bytes stands in another; one of 32 bytes is in the proof itself.
func TestP8NodesOfAbout32Bytes(t *testing.T) {
	for _, c := range edgeCases {
		for n := c.short - 1; n <= c.short+2; n++ {
			m := maps.Clone(c.other)
			m[c.key] = xs(n)
			x := treeOf(t, m)
			for _, k := range append(slices.Collect(maps.Keys(m)), partings...) {
				proof := mustProve(t, x, k)
				if !slices.Equal(proof, proofOf(t, m, k)) {
					t.Errorf("%s, with a value of %d bytes: Prove(%x) = %x", c.what, n, k, proof)
				}
			}
			code := codeOf(t, c.code(t, xs(n)))
			if slices.Contains(mustProve(t, x, c.key), code) != (n > c.short) {
				t.Errorf("%s, with a value of %d bytes, is in the proof, or is not", c.what, n)
			}
		}
	}
}

// drawnMap gives some keys, and values for most of them.
func drawnMap(r *rand.Rand) (map[api.Key]string, []api.Key) {
	m := map[api.Key]string{}
	var keys []api.Key
	for range r.Intn(30) {
		k := drawn(r)
		keys = append(keys, k)
		if r.Intn(3) > 0 {
			m[k] = xs(1 + r.Intn([]int{3, 12, 40, api.MaxValue}[r.Intn(4)]))
		}
	}
	return m, append(keys, endOf(1), keyOf(0x10))
}

func TestP8P15DrawnMaps(t *testing.T) {
	r := rand.New(rand.NewSource(5))
	for range 150 {
		m, keys := drawnMap(r)
		x := treeOf(t, m)
		for _, k := range keys {
			proof := mustProve(t, x, k)
			if !slices.Equal(proof, proofOf(t, m, k)) {
				t.Fatalf("%v: Prove(%x) = %x", m, k, proof)
			}
			value, had := m[k]
			checkVerify(t, "what Prove gives", x.Root(), k, proof, value, had)
			if a, b, one := x.Extract(k, proof); a != "" || b != "" || one {
				t.Errorf("Extract of what Prove gives = %x, %x, %v", a, b, one)
			}
		}
	}
}

// A proof is of the map as it is, whatever was asked of it or came and went before.
func TestP8BehindChanges(t *testing.T) {
	x, m := twigs.New(), map[api.Key]string{}
	for i, k := range slices.Concat(partings, partings) {
		if i%5 == 4 {
			_, had := m[k]
			mustDelete(t, x, k, had)
			delete(m, k)
		} else {
			m[k] = xs(1 + 4*i)
			mustPut(t, x, k, m[k])
		}
		for _, other := range partings {
			if proof := mustProve(t, x, other); !slices.Equal(proof, proofOf(t, m, other)) {
				t.Fatalf("behind change %d: Prove(%x) = %x", i, other, proof)
			}
		}
		if x.Root() != rootOf(t, m) {
			t.Fatalf("behind change %d and proofs: Root() = %x", i, x.Root())
		}
	}
}

func TestP10Extract(t *testing.T) {
	x := treeOf(t, map[api.Key]string{endOf(0x01): xs(40), endOf(0x02): xs(41)})
	own := mustProve(t, x, endOf(0x01))
	if len(own) != 3 {
		t.Fatalf("the proof has %d nodes", len(own))
	}
	for _, c := range []struct {
		what  string
		proof []string
		a, b  string
	}{
		{"equal lists", own, "", ""},
		{"a shorter list", own[:2], "", ""},
		{"a longer list", append(slices.Clone(own), "more"), "", ""},
		{"no node", nil, own[0], "\x80"},
		{"no node, not nil", []string{}, own[0], "\x80"},
		{"the empty map's", []string{"\x80"}, own[0], "\x80"},
		{"another first node", []string{"x", own[1], own[2]}, own[0], "x"},
		{"another second node", []string{own[0], "", own[2]}, own[1], ""},
		{"another last node", []string{own[0], own[1], own[2] + "x"}, own[2], own[2] + "x"},
		{"two other nodes: the first counts", []string{own[0], own[2], own[1]}, own[1], own[2]},
		{"a node without bytes alone", []string{""}, own[0], ""},
		{"a long text", []string{xs(100000)}, own[0], xs(100000)},
	} {
		if a, b, one := x.Extract(endOf(0x01), c.proof); a != c.a || b != c.b || one {
			t.Errorf("%s: Extract = %.40x, %.40x, %v, want %.40x, %.40x", c.what, a, b, one, c.a, c.b)
		}
	}
}

func TestP10OfTheEmptyMap(t *testing.T) {
	x := twigs.New()
	for _, c := range []struct {
		proof []string
		a, b  string
	}{
		{nil, "", ""},
		{[]string{"\x80"}, "", ""},
		{[]string{"\x80", "x"}, "", ""},
		{[]string{"x"}, "\x80", "x"},
		{[]string{""}, "\x80", ""},
		{[]string{"\x80\x80", "\x80"}, "\x80", "\x80\x80"},
	} {
		if a, b, one := x.Extract(endOf(1), c.proof); a != c.a || b != c.b || one {
			t.Errorf("Extract(%x) = %x, %x, %v, want %x, %x", c.proof, a, b, one, c.a, c.b)
		}
	}
}

// It is the proof of the key that was asked for beside which the other is laid.
func TestP10OfAnotherKey(t *testing.T) {
	m := map[api.Key]string{endOf(0x01): xs(40), endOf(0x02): xs(41)}
	x := treeOf(t, m)
	first, second := proofOf(t, m, endOf(0x01)), proofOf(t, m, endOf(0x02))
	if a, b, one := x.Extract(endOf(0x01), second); a != first[2] || b != second[2] || one {
		t.Errorf("Extract = %x, %x, %v", a, b, one)
	}
	if a, b, one := x.Extract(endOf(0x03), second); a != "" || b != "" || one {
		t.Errorf("a proof that goes on where Prove's ends: Extract = %x, %x, %v", a, b, one)
	}
}

// changedProofs gives proofs that are like this one, but have been tampered with.
func changedProofs(r *rand.Rand, proof []string, other []string) [][]string {
	all := [][]string{nil, other, append(slices.Clone(proof), ""), append(slices.Clone(proof), proof...), append(slices.Clone(other), proof...)}
	for i, code := range proof {
		at := r.Intn(len(code))
		for _, text := range []string{
			"", code[:at], code[at:], code + "\x80", code + code,
			code[:at] + string([]byte{code[at] ^ 1<<r.Intn(8)}) + code[at+1:],
			code[:at] + string([]byte{byte(r.Intn(256))}) + code[at:],
			proof[r.Intn(len(proof))],
		} {
			changed := slices.Clone(proof)
			changed[i] = text
			all = append(all, changed)
		}
		all = append(all, slices.Delete(slices.Clone(proof), i, i+1), slices.Insert(slices.Clone(proof), i, code), proof[:i])
		if i < len(other) {
			changed := slices.Clone(proof)
			changed[i] = other[i]
			all = append(all, changed, append(slices.Clone(proof[:i]), other[i:]...))
		}
	}
	return all
}

func TestP15WhatVerifyAcceptsIsTheMapsOwnAnswer(t *testing.T) {
	r := rand.New(rand.NewSource(11))
	for range 30 {
		m, keys := drawnMap(r)
		x := treeOf(t, m)
		root := x.Root()
		for _, k := range keys[:min(len(keys), 8)] {
			proof, other := mustProve(t, x, k), mustProve(t, x, keys[r.Intn(len(keys))])
			for _, changed := range changedProofs(r, proof, other) {
				value, had, f := twigs.Verify(root, k, changed)
				wantValue, wantHad, want := byWords(t, root, k, changed)
				if value != wantValue || had != wantHad || f != want {
					t.Fatalf("Verify(%x, %x) = %q, %v, %+v, want %q, %v, %+v", k, changed, value, had, f, wantValue, wantHad, want)
				}
				own, ownHad := m[k]
				if f == (api.Fault{}) && (value != own || had != ownHad) {
					t.Fatalf("Verify accepts %x with %q, %v", changed, value, had)
				}
				if f == (api.Fault{}) && !slices.Equal(changed, proof) {
					t.Fatalf("Verify accepts another proof than Prove's: %x", changed)
				}
				if _, _, one := x.Extract(k, changed); one {
					t.Fatalf("two different texts with one digest: %x", changed)
				}
			}
		}
	}
}

func TestP2ProofsAreNewMemory(t *testing.T) {
	m := map[api.Key]string{endOf(0x01): xs(40), endOf(0x02): xs(41)}
	x := treeOf(t, m)
	want := proofOf(t, m, endOf(0x01))
	for range 3 {
		proof := mustProve(t, x, endOf(0x01))
		if !slices.Equal(proof, want) {
			t.Fatalf("Prove = %x", proof)
		}
		for i := range proof {
			*unsafe.StringData(proof[i]) = 'x'
			proof[i] = "changed"
		}
		_ = append(proof, "more")
		clear(proof[:cap(proof)])
		if x.Root() != rootOf(t, m) {
			t.Fatalf("Root() = %x", x.Root())
		}
	}
}

// ownText gives a text in memory that may be written to.
func ownText(s string) (string, []byte) {
	b := []byte(s)
	return unsafe.String(&b[0], len(b)), b
}

func TestP2ProofsAreNotKeptOrWrittenInto(t *testing.T) {
	m := map[api.Key]string{endOf(0x01): xs(40), endOf(0x02): xs(41)}
	x := treeOf(t, m)
	want := proofOf(t, m, endOf(0x01))
	var proof []string
	var bytes [][]byte
	for _, code := range want {
		s, b := ownText(code)
		proof, bytes = append(proof, s), append(bytes, b)
	}
	proof = append(proof, "spare")[:len(want)]
	value, had, f := twigs.Verify(x.Root(), endOf(0x01), proof)
	a, b, _ := x.Extract(endOf(0x02), proof)
	if !slices.Equal(proof, want) || proof[:len(want)+1][len(want)] != "spare" {
		t.Errorf("the proof has become %x", proof)
	}
	for i := range bytes {
		clear(bytes[i])
		proof[i] = ""
	}
	if value != xs(40) || !had || f != (api.Fault{}) {
		t.Errorf("Verify = %q, %v, %+v: the value is the proof's own memory", value, had, f)
	}
	if a != proofOf(t, m, endOf(0x02))[2] || b != want[2] {
		t.Errorf("Extract = %x, %x: a text is the proof's own memory", a, b)
	}
	if a != "" {
		*unsafe.StringData(a) = 'x'
	}
	if !slices.Equal(mustProve(t, x, endOf(0x02)), proofOf(t, m, endOf(0x02))) {
		t.Error("a text of Extract is the map's own memory")
	}
}

// What Verify answers hangs on nothing that was asked before.
func TestP2VerifyHangsOnArgumentsAlone(t *testing.T) {
	m := map[api.Key]string{endOf(0x01): xs(40), endOf(0x02): xs(41)}
	root := rootOf(t, m)
	first, second := proofOf(t, m, endOf(0x01)), proofOf(t, m, endOf(0x02))
	for range 3 {
		checkVerify(t, "the first", root, endOf(0x01), first, xs(40), true)
		checkFault(t, "the wrong one", root, endOf(0x01), second, api.Fault{Err: api.ErrDigest, Node: 2})
		checkVerify(t, "the second", root, endOf(0x02), second, xs(41), true)
		checkFault(t, "none", root, endOf(0x02), nil, api.Fault{Err: api.ErrShort})
	}
}
