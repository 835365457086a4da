package tree

import (
	"math/rand"
	"strings"
	"testing"

	"twigs/api"
	"twigs/digest"
	"twigs/fault"
	"twigs/nibbles"
)

// end gives the key that has noughts ahead of these bytes.
func end(last ...byte) api.Key {
	var k api.Key
	copy(k[len(k)-len(last):], last)
	return k
}

func treeOf(t *testing.T, keys ...api.Key) *Tree {
	t.Helper()
	var x Tree
	for _, k := range keys {
		if err := x.Put(k, "a"); err != nil {
			t.Fatal(err)
		}
	}
	return &x
}

// checkForm sees that a node is what the document makes of its paths, and counts the leaves.
func checkForm(t *testing.T, n node, depth int) int {
	t.Helper()
	switch x := n.(type) {
	case *leaf:
		if depth+len(x.path) != api.KeyNibbles {
			t.Fatalf("a leaf with %d nibbles stands behind %d", len(x.path), depth)
		}
		return 1
	case *extension:
		if _, ok := x.tail.(*branch); !ok || x.path == "" {
			t.Fatalf("an extension of %d nibbles leads to %T", len(x.path), x.tail)
		}
		return checkForm(t, x.tail, depth+len(x.path))
	case *branch:
		nodes, leaves := 0, 0
		for _, next := range x.nodes {
			if next != nil {
				nodes++
				leaves += checkForm(t, next, depth+1)
			}
		}
		if nodes < 2 {
			t.Fatalf("a branch has %d nodes", nodes)
		}
		return leaves
	}
	t.Fatalf("%T stands behind %d nibbles", n, depth)
	return 0
}

func TestFormBehindEveryChange(t *testing.T) {
	r := rand.New(rand.NewSource(1))
	var x Tree
	keys := map[api.Key]int{}
	for range 3000 {
		k := end(byte(r.Intn(3)), byte(r.Intn(3)*17), byte(r.Intn(20)))
		k[0] = byte(r.Intn(2))
		if _, had := keys[k]; r.Intn(2) == 0 {
			if got, err := x.Delete(k); got != had || err != nil {
				t.Fatalf("Delete(%x) = %v, %v", k, got, err)
			}
			delete(keys, k)
		} else if err := x.Put(k, "a"); err != nil {
			t.Fatal(err)
		} else {
			keys[k] = 1
		}
		if len(keys) == 0 {
			if x.root != nil {
				t.Fatalf("the empty map has %T", x.root)
			}
		} else if got := checkForm(t, x.root, 0); got != len(keys) {
			t.Fatalf("%d leaves, want %d", got, len(keys))
		}
	}
}

// The tree here: an extension of 60 nibbles; a branch; for its nibble 0 an extension of one nibble; a branch; for its nibble 0 a branch.
func TestWhereAWayEnds(t *testing.T) {
	x := treeOf(t, end(0x01), end(0x02), end(0x31), end(0x50, 0x00))
	for _, c := range []struct {
		key     api.Key
		through int
		rest    int
		found   bool
	}{
		{end(0x01), 5, 0, true},        // at its leaf
		{end(0x31), 4, 1, true},        // at its leaf
		{end(0x32), 4, 1, false},       // at a leaf with another path
		{end(0x03), 4, 1, false},       // at a branch without such a node
		{end(0x60, 0x00), 1, 4, false}, // at a branch without such a node
		{end(0x01, 0x01), 2, 3, false}, // at an extension with another path
		{end(0x01, 0x00, 0x00), 0, 64, false},
	} {
		w := follow(x.root, nibbles.OfKey(c.key))
		if len(w.through) != c.through || len(w.rest) != c.rest || (w.found() != nil) != c.found {
			t.Errorf("the way of %x goes through %d nodes, leaves %d nibbles, finds %v", c.key, len(w.through), len(w.rest), w.found())
		}
	}
	if w := follow(nil, nibbles.OfKey(end())); w.end != nil || w.found() != nil || len(w.through) != 0 {
		t.Errorf("the way in the empty map ends at %T", w.end)
	}
}

// No change reaches into nodes that stand elsewhere too.
func TestNodesStayAsTheyAre(t *testing.T) {
	keys := []api.Key{end(0x01), end(0x02), end(0x31), end(0x50, 0x00)}
	x := treeOf(t, keys...)
	before := *x
	root := x.Root()
	for _, k := range keys {
		if err := x.Put(k, strings.Repeat("b", 50)); err != nil {
			t.Fatal(err)
		}
		x.Root()
	}
	for _, k := range keys {
		if had, err := x.Delete(k); !had || err != nil {
			t.Fatal(had, err)
		}
	}
	for _, k := range keys {
		if value, had, err := before.Get(k); value != "a" || !had || err != nil {
			t.Errorf("the value of %x has become %q, %v, %v", k, value, had, err)
		}
	}
	if again := treeOf(t, keys...).Root(); before.Root() != root || again != root {
		t.Errorf("the root has become %x", before.Root())
	}
}

func TestNothingIsWorkedOutTwice(t *testing.T) {
	for _, size := range []int{1, 31, 32, 600} {
		asked := 0
		code := func() string {
			asked++
			return strings.Repeat("c", size)
		}
		var w worked
		want := digest.Of(strings.Repeat("c", size))
		for range 2 {
			held := strings.Repeat("c", size)
			if size >= 32 {
				held = "\xa0" + string(want[:])
			}
			if got := w.work(code); got != held {
				t.Errorf("the reference to a node of %d bytes is %x", size, got)
			}
		}
		if asked != 1 {
			t.Errorf("the code was asked for %d times", asked)
		}
	}
}

func TestWhatIsWorkedOutOfOtherNodesHoldsOn(t *testing.T) {
	near, far := end(0x01), api.Key{0x10}
	x := treeOf(t, near, end(0x02), far, api.Key{0x11})
	x.Root()
	before := x.root.(*branch).nodes[1]
	if before.(*branch).held == "" {
		t.Fatal("Root has kept nothing of what it worked out")
	}
	if err := x.Put(near, "b"); err != nil {
		t.Fatal(err)
	}
	if x.root.(*branch).nodes[1] != before {
		t.Error("a node off the key's way was made anew")
	}
}

func TestWrongValues(t *testing.T) {
	x := treeOf(t, end(1))
	root := x.root
	for _, value := range []string{"", strings.Repeat("v", api.MaxValue+1)} {
		if err := x.Put(end(1), value); err != fault.Value || x.root != root {
			t.Errorf("Put of %d bytes: %v", len(value), err)
		}
	}
}
