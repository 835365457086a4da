package twigs_test

import (
	"math/rand"
	"slices"
	"strings"
	"testing"

	"twigs/api"
	"twigs/twigs"
)

func TestP12TheEmptyMap(t *testing.T) {
	x := mustOpen(t, twigs.New().Root(), "\x00")
	checkPart(t, x, part{}, partings)
	mustPut(t, x, endOf(1), "a")
	checkGet(t, x, map[api.Key]string{endOf(1): "a"}, partings)
	checkOpenFault(t, "another root", api.Hash{}, "\x00", api.Fault{Err: api.ErrDigest, At: 1})
}

func TestP12AStubAlone(t *testing.T) {
	for _, root := range []api.Hash{{}, {1, 31: 2}, twigs.New().Root(), rootOf(t, map[api.Key]string{endOf(1): "a"})} {
		x := mustOpen(t, root, stubOp(root))
		if x.Root() != root || x.Whole() != stubOp(root) {
			t.Errorf("Root() = %x, Whole() = %x, want %x", x.Root(), x.Whole(), root)
		}
		if value, had, err := x.Get(endOf(1)); value != "" || had || err != api.ErrStub {
			t.Errorf("Get = %q, %v, %d", value, had, err)
		}
		root[0] ^= 1
		checkOpenFault(t, "another root", root, x.Whole(), api.Fault{Err: api.ErrDigest, At: 33})
	}
}

func TestP12OneKey(t *testing.T) {
	for _, value := range []string{"a", xs(api.MaxValue)} {
		for _, k := range partings {
			m := map[api.Key]string{k: value}
			x := mustOpen(t, rootOf(t, m), leafOp(pathOf(k), value))
			checkPart(t, x, part{values: m}, partings)
		}
	}
}

// sized gives a map whose whole witness has that many bytes.
func sized(t *testing.T, size int) map[api.Key]string {
	t.Helper()
	m := map[api.Key]string{}
	for i := range 64 {
		m[keyOf(byte(i), 7)] = "x"
	}
	missing := size - len(treeOf(t, m).Whole())
	for k := range m {
		more := min(missing, api.MaxValue-1)
		m[k] += xs(more)
		missing -= more
	}
	if len(treeOf(t, m).Whole()) != size {
		t.Fatalf("the witness has %d bytes, not %d", len(treeOf(t, m).Whole()), size)
	}
	return m
}

func TestP12MaxWitness(t *testing.T) {
	for _, size := range []int{api.MaxWitness - 1, api.MaxWitness, api.MaxWitness + 1} {
		m := sized(t, size)
		whole := treeOf(t, m).Whole()
		if size > api.MaxWitness {
			checkOpenFault(t, "a map's own witness", rootOf(t, m), whole, api.Fault{Err: api.ErrLong})
			continue
		}
		if x := mustOpen(t, rootOf(t, m), whole); x.Whole() != whole {
			t.Errorf("of %d bytes: Whole() has %d", size, len(x.Whole()))
		}
	}
	for _, letter := range []string{"\x00", "\x01", "\x02", "\x03", "\x04", "\x05", "\xff"} {
		for _, size := range []int{api.MaxWitness + 1, 100000} {
			checkOpenFault(t, "too many bytes", api.Hash{}, strings.Repeat(letter, size), api.Fault{Err: api.ErrLong})
		}
	}
	checkOpenFault(t, "as many bytes as there may be", api.Hash{}, strings.Repeat("\x00", api.MaxWitness), api.Fault{Err: api.ErrStack, At: api.MaxWitness})
	checkOpenFault(t, "no operation", api.Hash{}, strings.Repeat("\x05", api.MaxWitness), api.Fault{Err: api.ErrOp})
}

// aheads are operations that may stand ahead of any other, so that its place is not always 0.
func aheads() []string {
	return []string{"", "\x00", leafOp("", "a"), stubOp(api.Hash{7}), stubOp(api.Hash{7}) + extOp("\x01\x02\x03"), leafOp("", "a") + leafOp("", "b") + branchOp(3, 12), strings.Repeat("\x00", 40)}
}

func TestP12NoOperation(t *testing.T) {
	for v := 5; v < 256; v++ {
		for _, ahead := range aheads() {
			for _, behind := range []string{"", "\x00", "\x05", xs(40)} {
				checkOpenFault(t, "no operation", api.Hash{}, ahead+string([]byte{byte(v)})+behind, api.Fault{Err: api.ErrOp, At: len(ahead)})
			}
		}
	}
}

func TestP12OperationsThatAreNotWhole(t *testing.T) {
	for _, whole := range []string{
		leafOp("", "a"), leafOp("\x01", "a"), leafOp("\x01\x02", "ab"), leafOp(noughts(64), xs(100)),
		// These are no nodes either, but that they are not whole comes first.
		leafOp("", ""), leafOp(noughts(65), "a"), leafOp(noughts(255), xs(255)), leafOp("", xs(101)), "\x01\x01\xff\x01a",
		extOp("\x01"), extOp("\x01\x02"), extOp(noughts(63)), extOp(""), extOp(noughts(64)), extOp(noughts(255)), "\x02\x01\xff",
		branchOp(0, 1), branchOp(), branchOp(8), branchOp(0, 15),
		stubOp(api.Hash{}), stubOp(api.Hash{1}),
	} {
		for _, ahead := range aheads() {
			for n := 1; n < len(whole); n++ {
				checkOpenFault(t, "not whole", api.Hash{}, ahead+whole[:n], api.Fault{Err: api.ErrShort, At: len(ahead)})
			}
		}
	}
}

func TestP12OperationsThatAreNoNodes(t *testing.T) {
	for _, c := range []struct {
		what, op string
	}{
		{"a leaf's path has 65 nibbles", leafOp(noughts(65), "a")},
		{"a leaf's path has 66 nibbles", leafOp(noughts(66), "a")},
		{"a leaf's path has 255 nibbles", leafOp(noughts(255), "a")},
		{"a value has no byte", leafOp("", "")},
		{"a value has no byte, behind a path", leafOp(noughts(64), "")},
		{"a value has 101 bytes", leafOp("", xs(101))},
		{"a value has 255 bytes", leafOp(noughts(64), xs(255))},
		{"a bit behind a leaf's one nibble", "\x01\x01\x11\x01a"},
		{"the highest bit behind a leaf's one nibble", "\x01\x01\x18\x01a"},
		{"bits behind a leaf's 63 nibbles", "\x01\x3f" + noughts(31) + "\x0f\x01a"},
		{"an extension's path has no nibble", extOp("")},
		{"an extension's path has 64 nibbles", extOp(noughts(64))},
		{"an extension's path has 255 nibbles", extOp(noughts(255))},
		{"a bit behind an extension's one nibble", "\x02\x01\x01"},
		{"bits behind an extension's 63 nibbles", "\x02\x3f" + noughts(31) + "\x18"},
		{"a branch has no node", branchOp()},
		{"a branch has one node", branchOp(0)},
		{"a branch has one node, with a higher bit", branchOp(8)},
		{"a branch has one node, with the highest bit", branchOp(15)},
	} {
		for _, ahead := range aheads() {
			// Whether there is a node for it to take does not count yet, and nothing behind it does.
			for _, behind := range []string{"", "\x00", "\x05", "\x01"} {
				checkOpenFault(t, c.what, api.Hash{}, ahead+c.op+behind, api.Fault{Err: api.ErrNode, At: len(ahead)})
			}
		}
	}
}

func TestP12TooFewNodes(t *testing.T) {
	checkOpenFault(t, "an extension", api.Hash{}, extOp("\x01"), api.Fault{Err: api.ErrStack})
	checkOpenFault(t, "an extension of 63 nibbles", api.Hash{}, extOp(noughts(63)), api.Fault{Err: api.ErrStack})
	nibbles := []byte{0, 1, 2, 3, 4, 5, 6, 7, 8, 9, 10, 11, 12, 13, 14, 15}
	for count := 2; count <= 16; count++ {
		for there := range count {
			for _, one := range []string{stubOp(api.Hash{}), "\x00"} {
				ahead := strings.Repeat(one, there)
				for _, op := range []string{branchOp(nibbles[:count]...), branchOp(nibbles[16-count:]...)} {
					checkOpenFault(t, "a branch", api.Hash{}, ahead+op+"\x05", api.Fault{Err: api.ErrStack, At: len(ahead)})
				}
			}
		}
	}
	// What was taken once is not there any more.
	two := strings.Repeat(stubOp(api.Hash{}), 2) + branchOp(0, 1)
	checkOpenFault(t, "what another has taken", api.Hash{}, two+branchOp(0, 1), api.Fault{Err: api.ErrStack, At: len(two)})
}

func TestP12WhatCanNotBeTaken(t *testing.T) {
	stub := stubOp(api.Hash{})
	two := stub + stub + branchOp(0, 1)
	for _, c := range []struct {
		what, ahead, op string
	}{
		{"an extension takes an empty map", "\x00", extOp("\x01")},
		{"an extension takes a leaf", leafOp("", "a"), extOp("\x01")},
		{"an extension takes a long leaf", leafOp("", xs(60)), extOp("\x01")},
		{"an extension takes an extension of a stub", stub + extOp("\x01"), extOp("\x01")},
		{"an extension takes an extension of a branch", two + extOp("\x01"), extOp("\x01")},
		{"it is the last one that counts", two + stub + "\x00", extOp("\x01")},
		{"a branch takes an empty map first", "\x00" + stub, branchOp(0, 1)},
		{"a branch takes an empty map last", stub + "\x00", branchOp(0, 1)},
		{"a branch takes an empty map in the middle", stub + "\x00" + stub, branchOp(1, 2, 3)},
		{"a branch takes empty maps alone", "\x00\x00", branchOp(0, 15)},
	} {
		for _, behind := range []string{"", "\x05", "\x01"} {
			checkOpenFault(t, c.what, api.Hash{}, c.ahead+c.op+behind, api.Fault{Err: api.ErrNode, At: len(c.ahead)})
		}
	}
	// What is not taken may be anything: the error comes at the end.
	for _, below := range []string{"\x00", leafOp("", "a"), two} {
		for _, witness := range []string{below + two, below + two + extOp("\x01"), below + stub + extOp("\x01")} {
			checkOpenFault(t, "below what is taken", api.Hash{}, witness, api.Fault{Err: api.ErrStack, At: len(witness)})
		}
	}
}

func TestP12NotOneNodeAlone(t *testing.T) {
	whole := leafOp(noughts(64), "a")
	root := rootOf(t, map[api.Key]string{endOf(): "a"})
	for _, c := range []struct {
		what, witness string
	}{
		{"none", ""},
		{"two", whole + whole},
		{"a map and an empty one", whole + "\x00"},
		{"an empty map and another", "\x00" + whole},
		{"two empty maps", "\x00\x00"},
		{"two stubs", stubOp(root) + stubOp(root)},
		{"two, both too short", leafOp("", "a") + leafOp("", "a")},
		{"a branch and one more", stubOp(root) + stubOp(root) + stubOp(root) + branchOp(0, 1)},
	} {
		checkOpenFault(t, c.what, root, c.witness, api.Fault{Err: api.ErrStack, At: len(c.witness)})
	}
	checkOpenFault(t, "none, for the empty map's root", twigs.New().Root(), "", api.Fault{Err: api.ErrStack})
}

// rootByOps gives the root of a tree whose depths may be wrong.
func rootByOps(t *testing.T, witness string) api.Hash {
	t.Helper()
	var stack []made
	for at := 0; at < len(witness); {
		next, size, err := stackByWords(t, stack, witness[at:])
		if err != api.OK {
			t.Fatalf("%x: %d at %d", witness, err, at)
		}
		stack, at = next, at+size
	}
	return twigs.Digest(stack[0].code)
}

func TestP12Depths(t *testing.T) {
	long, stub := xs(60), stubOp(api.Hash{3})
	pair := func(depth int) string { return leafOp(noughts(63-depth), long) }
	for _, c := range []struct {
		what, witness string
		fits          bool
	}{
		{"a leaf of 64 nibbles", leafOp(noughts(64), long), true},
		{"a leaf of 63 nibbles", leafOp(noughts(63), long), false},
		{"a leaf of no nibble", leafOp("", long), false},
		{"leaves of 63 nibbles in a branch", pair(0) + pair(0) + branchOp(0, 1), true},
		{"a leaf of 64 nibbles in a branch, the first", leafOp(noughts(64), long) + pair(0) + branchOp(0, 1), false},
		{"a leaf of 62 nibbles in a branch, the last", pair(0) + pair(0) + leafOp(noughts(62), long) + branchOp(0, 1, 15), false},
		{"a short leaf of 62 nibbles, beside stubs", stub + leafOp(noughts(62), "a") + stub + branchOp(0, 1, 2), false},
		{"leaves below an extension", pair(5) + pair(5) + branchOp(0, 1) + extOp(noughts(5)), true},
		{"a leaf too long below an extension", pair(5) + pair(4) + branchOp(0, 1) + extOp(noughts(5)), false},
		{"a leaf too short below an extension", pair(6) + pair(5) + branchOp(0, 1) + extOp(noughts(5)), false},
		{"leaves of no nibble behind 64", pair(63) + pair(63) + branchOp(0, 1) + extOp(noughts(63)), true},
		{"leaves of one nibble behind 64", pair(62) + pair(62) + branchOp(0, 1) + extOp(noughts(63)), false},
		{"an extension of 63 nibbles and a stub", stub + extOp(noughts(63)), true},
		{"a branch of stubs behind 63", stub + stub + branchOp(0, 1) + extOp(noughts(63)), true},
		{"an extension's path ends with the 63rd", stub + extOp("\x01") + stub + branchOp(0, 1) + extOp(noughts(61)), true},
		{"an extension's path ends with the 64th", stub + extOp("\x01") + stub + branchOp(0, 1) + extOp(noughts(62)), false},
		{"an extension's path ends with the 65th", stub + extOp("\x01") + stub + branchOp(0, 1) + extOp(noughts(63)), false},
		{"a long extension in a branch", stub + stub + extOp(noughts(63)) + branchOp(0, 1), false},
		{"an extension of 62 nibbles in a branch", stub + stub + extOp(noughts(62)) + branchOp(0, 1), true},
		{"a branch behind 63", stub + stub + branchOp(0, 1) + stub + branchOp(0, 1) + extOp(noughts(62)), true},
		{"a branch behind 64", stub + stub + branchOp(0, 1) + stub + branchOp(0, 1) + extOp(noughts(63)), false},
		{"a branch behind 64, the last", stub + stub + stub + branchOp(0, 1) + branchOp(0, 15) + extOp(noughts(63)), false},
	} {
		root := rootByOps(t, c.witness)
		if c.fits {
			if x := mustOpen(t, root, c.witness); x.Whole() != c.witness {
				t.Errorf("%s: Whole() = %x", c.what, x.Whole())
			}
			continue
		}
		checkOpenFault(t, c.what, root, c.witness, api.Fault{Err: api.ErrNode, At: len(c.witness)})
		checkOpenFault(t, c.what+", and another root", api.Hash{}, c.witness, api.Fault{Err: api.ErrNode, At: len(c.witness)})
	}
}

// Each change of a root's bits is another root.
func TestP12AnotherRoot(t *testing.T) {
	m := map[api.Key]string{endOf(0x01): "a", endOf(0x02): xs(60), keyOf(0x50): xs(60)}
	for _, witness := range []string{treeOf(t, m).Whole(), treeOf(t, m).Witness([]api.Key{keyOf(0x50)}), stubOp(rootOf(t, m))} {
		mustOpen(t, rootOf(t, m), witness)
		for bit := range 256 {
			root := rootOf(t, m)
			root[bit/8] ^= 1 << (bit % 8)
			checkOpenFault(t, "a bit changed", root, witness, api.Fault{Err: api.ErrDigest, At: len(witness)})
		}
	}
}

// Where a stub stands for a node that stands in another itself, the root is another.
func TestP12AStubOfAShortNode(t *testing.T) {
	m := map[api.Key]string{endOf(0x01): "a", endOf(0x02): "b"}
	low := branchItem(t, map[byte]api.Item{1: leafItem(t, "", "a"), 2: leafItem(t, "", "b")})
	for _, witness := range []string{
		hidden(t, low) + extOp(noughts(63)),
		hidden(t, leafItem(t, "", "a")) + leafOp("", "b") + branchOp(1, 2) + extOp(noughts(63)),
	} {
		checkOpenFault(t, "a stub of a short node", rootOf(t, m), witness, api.Fault{Err: api.ErrDigest, At: len(witness)})
	}
}

func TestP12AllShortWitnesses(t *testing.T) {
	for _, witness := range shortTexts("\x00\x01\x02\x03\x05\x06\x10", 6) {
		checkWitness(t, witness)
	}
	// One byte for each node, so that branches and extensions find some.
	for _, ops := range shortTexts("\x00\x01\x02\x03\x04", 6) {
		var witness string
		for _, op := range []byte(ops) {
			witness += []string{"\x00", leafOp("", "a"), extOp("\x01"), branchOp(0, 9), stubOp(api.Hash{9})}[op]
		}
		checkWitness(t, witness)
	}
}

func TestP12DrawnWitnesses(t *testing.T) {
	r := rand.New(rand.NewSource(31))
	opened, refused := 0, 0
	for range 1500 {
		witness := drawnOps(r, 0)
		if len(witness) > 3000 {
			continue
		}
		if checkWitness(t, witness) != nil {
			opened++
		} else {
			refused++
		}
		for range 4 {
			checkWitness(t, tampered(r, witness))
		}
	}
	if opened < 100 || refused < 30 {
		t.Errorf("%d were opened, %d refused", opened, refused)
	}
}

// Nodes far deeper in one another than any key is long.
func TestP1OpenOfDeepTrees(t *testing.T) {
	leaf := leafOp("", "a")
	deep := leaf
	for len(deep)+len(leaf)+3 <= api.MaxWitness {
		deep += leaf + branchOp(0, 1)
	}
	inTime(t, func() {
		checkOpenFault(t, "deep", api.Hash{}, deep, api.Fault{Err: api.ErrNode, At: len(deep)})
	})
	first := strings.Repeat(leaf, 1140)
	first += strings.Repeat(branchOp(0, 1), 1139)
	checkOpenFault(t, "deep, by their last nodes", api.Hash{}, first, api.Fault{Err: api.ErrNode, At: len(first)})
	extended := leaf + leaf + branchOp(0, 1)
	for len(extended)+10 <= api.MaxWitness {
		extended += extOp("\x01") + leaf + branchOp(0, 1)
	}
	checkOpenFault(t, "deep, with extensions", api.Hash{}, extended, api.Fault{Err: api.ErrNode, At: len(extended)})
}

func TestP1OpenOfAllTexts(t *testing.T) {
	for _, witness := range shortTexts(edges, 3) {
		checkWitness(t, witness)
	}
	for v := range 256 {
		one := string([]byte{byte(v)})
		for _, n := range []int{1, 2, 33, 34, 67, 255, 256, 1000, api.MaxWitness, api.MaxWitness + 1} {
			checkWitness(t, strings.Repeat(one, n))
			checkWitness(t, one+xs(n-1))
		}
	}
}

// Every call on whatever tree Open has given ends, and with an error nothing has changed.
func TestP1CallsOnWhateverIsOpened(t *testing.T) {
	r := rand.New(rand.NewSource(32))
	stubs := 0
	for range 400 {
		x := checkWitness(t, drawnOps(r, 0))
		if x == nil {
			continue
		}
		for range 12 {
			k := api.Key{}
			for range r.Intn(4) {
				k[r.Intn(32)] = []byte{0x01, 0x10, 0x11, 0x02, 0x90}[r.Intn(5)]
			}
			root, whole := x.Root(), x.Whole()
			value, had, err := x.Get(k)
			proof, proveErr := x.Prove(k)
			if err != proveErr || err != api.OK && (value != "" || had || proof != nil) {
				t.Fatalf("Get(%x) = %q, %v, %d, Prove = %x, %d", k, value, had, err, proof, proveErr)
			}
			if err == api.OK {
				checkVerify(t, "what Prove gives", root, k, proof, value, had)
			}
			x.Extract(k, []string{"x"})
			x.Witness([]api.Key{k})
			checkUnchanged(t, "asking", x, root, whole)
			if r.Intn(2) == 0 {
				err = x.Put(k, xs(r.Intn(103)))
			} else {
				_, err = x.Delete(k)
			}
			if err != api.OK {
				stubs++
				checkUnchanged(t, "a change", x, root, whole)
			}
			if again, f := twigs.Open(x.Root(), x.Whole()); len(x.Whole()) <= api.MaxWitness && (again == nil || f != (api.Fault{}) || again.Whole() != x.Whole()) {
				t.Fatalf("what was changed can't be opened: %+v: %x", f, x.Whole())
			}
		}
	}
	if stubs < 100 {
		t.Errorf("%d changes were refused", stubs)
	}
}

// Where several errors apply, the first that is named is told; and the first operation with one ends all.
func TestP12OrderOfErrors(t *testing.T) {
	stub := stubOp(api.Hash{})
	for _, c := range []struct {
		what, witness string
		err           api.Errno
		at            int
	}{
		{"ErrLong ahead of ErrOp", "\x05" + noughts(api.MaxWitness), api.ErrLong, 0},
		{"ErrShort ahead of ErrNode: a leaf", "\x01\x41" + noughts(33), api.ErrShort, 0},
		{"ErrShort ahead of ErrNode: an extension", "\x02\x40" + noughts(31), api.ErrShort, 0},
		{"ErrShort ahead of ErrNode: a branch", "\x03\x00", api.ErrShort, 0},
		{"ErrShort ahead of ErrStack", "\x02\x05\x11\x11", api.ErrShort, 0},
		{"ErrNode ahead of ErrStack: an extension", "\x02\x00", api.ErrNode, 0},
		{"ErrNode ahead of ErrStack: a branch", "\x03\x10\x00", api.ErrNode, 0},
		{"ErrStack ahead of ErrNode", "\x00" + branchOp(0, 1), api.ErrStack, 1},
		{"the first operation, ErrNode, then ErrOp", extOp("") + "\x05", api.ErrNode, 0},
		{"the first operation, ErrOp, then ErrNode", "\x05" + extOp(""), api.ErrOp, 0},
		{"the first operation, ErrStack, then ErrShort", extOp("\x01") + "\x01", api.ErrStack, 0},
		{"an operation ahead of the end", stub + stub + "\x01", api.ErrShort, 66},
		{"at the end ErrStack ahead of ErrNode", leafOp("", "a") + stub, api.ErrStack, 37},
		{"at the end ErrNode ahead of ErrDigest", leafOp("", "a"), api.ErrNode, 4},
		{"at last ErrDigest", leafOp(noughts(64), "a"), api.ErrDigest, 36},
	} {
		checkOpenFault(t, c.what, api.Hash{}, c.witness, api.Fault{Err: c.err, At: c.at})
	}
}

// What Open answers hangs on nothing that was asked before.
func TestP2OpenHangsOnArgumentsAlone(t *testing.T) {
	m := map[api.Key]string{endOf(0x01): xs(40), endOf(0x02): xs(41)}
	witness, p := ways(endOf(0x01)).of(t, m)
	for range 3 {
		x := mustOpen(t, rootOf(t, m), witness)
		checkPart(t, x, p, slices.Concat(partings, []api.Key{endOf(0x02)}))
		checkOpenFault(t, "another root", api.Hash{}, witness, api.Fault{Err: api.ErrDigest, At: len(witness)})
		checkOpenFault(t, "not whole", rootOf(t, m), witness[:len(witness)-1], api.Fault{Err: api.ErrShort, At: len(witness) - 34})
		mustPut(t, x, endOf(0x01), "new")
	}
}
