package tree

import (
	"errors"
	"strings"
	"testing"

	"twigs/api"
	"twigs/digest"
	"twigs/fault"
)

// values that are long enough for a leaf to have a digest.
func fill(t *testing.T, x *Tree, keys ...api.Key) {
	t.Helper()
	for _, k := range keys {
		if err := x.Put(k, strings.Repeat("v", 40)); err != nil {
			t.Fatal(err)
		}
	}
}

// hiding gives the part of a tree in which the nodes that stand for these nibbles in the branch at the root are stubs.
func hiding(t *testing.T, x *Tree, hidden ...byte) *Tree {
	t.Helper()
	top := x.root.(*branch)
	for _, nibble := range hidden {
		top = top.with(nibble, hide(digestOf(top.nodes[nibble])))
	}
	return &Tree{root: top}
}

// checkStub sees that nothing can be asked or changed on the way of a key.
func checkStub(t *testing.T, part *Tree, k api.Key) {
	t.Helper()
	before := *part
	if value, had, err := part.Get(k); value != "" || had || err != fault.Stub {
		t.Errorf("Get(%x) = %q, %v, %v", k, value, had, err)
	}
	if err := part.Put(k, "new"); err != fault.Stub {
		t.Errorf("Put(%x) = %v", k, err)
	}
	if err := part.Put(k, ""); err != fault.Value {
		t.Errorf("Put(%x) of no byte = %v", k, err)
	}
	if had, err := part.Delete(k); had || err != fault.Stub {
		t.Errorf("Delete(%x) = %v, %v", k, had, err)
	}
	if proof, err := part.Prove(k); proof != nil || err != fault.Stub {
		t.Errorf("Prove(%x) = %x, %v", k, proof, err)
	}
	if a, b, one := part.Extract(k, []string{"x"}); a != "" || b != "" || one {
		t.Errorf("Extract(%x) = %x, %x, %v", k, a, b, one)
	}
	if *part != before {
		t.Errorf("with an error the tree has changed, on the way of %x", k)
	}
}

func TestOfAStubNothingIsKnownButItsDigest(t *testing.T) {
	for _, h := range []api.Hash{{}, {1, 31: 2}, digest.Of("\x80")} {
		part := &Tree{root: hide(h)}
		if part.Root() != h {
			t.Errorf("Root() = %x, want %x", part.Root(), h)
		}
		checkStub(t, part, end(1))
	}
}

func TestAWayThatMeetsAStub(t *testing.T) {
	var x Tree
	fill(t, &x, end(1), end(2), api.Key{0x10}, api.Key{0x20})
	part := hiding(t, &x, 0, 2)
	if part.Root() != x.Root() {
		t.Errorf("Root() = %x, want %x", part.Root(), x.Root())
	}
	for _, k := range []api.Key{end(1), end(3), {0x01}, {0x20}, {0x21}} {
		checkStub(t, part, k)
	}
	if value, had, err := part.Get(api.Key{0x10}); len(value) != 40 || !had || err != nil {
		t.Errorf("Get of what is shown = %q, %v, %v", value, had, err)
	}
	if value, had, err := part.Get(api.Key{0x30}); value != "" || had || err != nil {
		t.Errorf("Get of what is shown not to be there = %q, %v, %v", value, had, err)
	}
	own, err := x.Prove(api.Key{0x10})
	if err != nil {
		t.Fatal(err)
	}
	if proof, err := part.Prove(api.Key{0x10}); strings.Join(proof, " ") != strings.Join(own, " ") || err != nil {
		t.Errorf("Prove of what is shown = %x, %v", proof, err)
	}
}

// What a part takes leads to the same root as in the whole.
func TestChangesBesideAStub(t *testing.T) {
	var x Tree
	fill(t, &x, end(1), end(2), api.Key{0x10}, api.Key{0x20})
	part := hiding(t, &x, 0)
	for _, y := range []*Tree{&x, part} {
		fill(t, y, api.Key{0x30}, api.Key{0x11})
		for _, k := range []api.Key{{0x10}, {0x30}, {0x20}} {
			if had, err := y.Delete(k); !had || err != nil {
				t.Fatalf("Delete(%x) = %v, %v", k, had, err)
			}
		}
		if had, err := y.Delete(api.Key{0x44}); had || err != nil {
			t.Errorf("Delete of what is not there = %v, %v", had, err)
		}
	}
	if part.Root() != x.Root() {
		t.Errorf("Root() = %x, want %x", part.Root(), x.Root())
	}
	before := *part
	if had, err := part.Delete(api.Key{0x11}); had || err != fault.Stub || *part != before {
		t.Errorf("a stub would be left alone: Delete = %v, %v", had, err)
	}
	fill(t, part, api.Key{0x12})
	if had, err := part.Delete(api.Key{0x11}); !had || err != nil {
		t.Errorf("two are left: Delete = %v, %v", had, err)
	}
}

// The stub below an extension stands for a branch, so the extension can be cut anywhere.
func TestAnExtensionOfAStub(t *testing.T) {
	for _, parting := range []int{0, 1, 30, 61, 62} {
		var x Tree
		fill(t, &x, end(1), end(2))
		top := x.root.(*extension)
		part := &Tree{root: &extension{path: top.path, tail: hide(digestOf(top.tail))}}
		checkStub(t, part, end(3))
		var k api.Key
		k[parting/2] = 0x10 >> (4 * (parting % 2))
		if value, had, err := part.Get(k); value != "" || had || err != nil {
			t.Errorf("Get(%x) = %q, %v, %v", k, value, had, err)
		}
		fill(t, &x, k)
		fill(t, part, k)
		if part.Root() != x.Root() {
			t.Errorf("cut at %d: Root() = %x, want %x", parting, part.Root(), x.Root())
		}
		before := *part
		if had, err := part.Delete(k); parting < 62 && (!had || err != nil) || parting == 62 && (had || err != fault.Stub || *part != before) {
			t.Errorf("cut at %d: Delete = %v, %v", parting, had, err)
		}
	}
}

func TestAPathsErrorIsWrapped(t *testing.T) {
	code := "\xc2\x40v"
	_, _, err := Verify(digest.Of(code), end(1), []string{code})
	var node fault.InNode
	var place fault.Place
	if !errors.Is(err, fault.Node) || !errors.Is(err, fault.Form) || !errors.As(err, &node) || !errors.As(err, &place) {
		t.Errorf("a node without a path: %v", err)
	}
}
