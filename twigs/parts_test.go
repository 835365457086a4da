package twigs_test

import (
	"maps"
	"math/rand"
	"slices"
	"testing"
	"unsafe"

	"twigs/api"
	"twigs/twigs"
)

// tall is a map whose nodes all have digests, with an extension, a branch and leaves at several depths.
func tall() map[api.Key]string {
	return map[api.Key]string{endOf(0x01): xs(60), endOf(0x02): xs(61), endOf(0x50, 0x01): xs(62), keyOf(0x51): xs(63)}
}

// askedOf are keys whose ways end, in the tall map, at each of its nodes.
var askedOf = []api.Key{
	endOf(0x01), endOf(0x02), endOf(0x03), endOf(0x11), endOf(0x50, 0x01), endOf(0x50, 0x02), endOf(0x60, 0x00),
	keyOf(0x51), keyOf(0x52), keyOf(0x60), keyOf(0x01), keyOf(0x00, 0x00, 0x10),
}

func TestP6GetOfAPartByHand(t *testing.T) {
	m := tall()
	x, _ := partOf(t, m, endOf(0x02))
	for _, c := range []struct {
		what  string
		key   api.Key
		value string
		had   bool
		err   api.Errno
	}{
		{"what is shown", endOf(0x02), xs(61), true, api.OK},
		{"at a branch without such a node", endOf(0x03), "", false, api.OK},
		{"at an extension with another path", endOf(0x11), "", false, api.OK},
		{"at the root, a branch without such a node", keyOf(0x60), "", false, api.OK},
		{"at the stub of its leaf", endOf(0x01), "", false, api.ErrStub},
		{"at the stub of its leaf, high up", keyOf(0x51), "", false, api.ErrStub},
		{"at the stub of another's leaf", keyOf(0x52), "", false, api.ErrStub},
		{"at the stub of a leaf in the middle", endOf(0x50, 0x02), "", false, api.ErrStub},
	} {
		if value, had, err := x.Get(c.key); value != c.value || had != c.had || err != c.err {
			t.Errorf("%s: Get = %q, %v, %d, want %q, %v, %d", c.what, value, had, err, c.value, c.had, c.err)
		}
	}
	low, _ := partOf(t, m, keyOf(0x01))
	if value, had, err := low.Get(endOf(0x02)); value != "" || had || err != api.ErrStub {
		t.Errorf("at the stub below an extension: Get = %q, %v, %d", value, had, err)
	}
}

// Each set of stubs that the tall map can have.
func TestP6P8P10EveryPart(t *testing.T) {
	m := tall()
	places := hideable(t, byPath(m), "")
	if len(places) != 9 {
		t.Fatalf("there are %d nodes that may be stubs", len(places))
	}
	for set := range 1 << len(places) {
		v := view{all: true}
		for i, ahead := range places {
			if set>>i&1 == 1 {
				v.stubs = append(v.stubs, ahead)
			}
		}
		witness, p := v.of(t, m)
		x := mustOpen(t, rootOf(t, m), witness)
		checkPart(t, x, p, askedOf)
	}
}

// Each change of each part of the tall map that a key's way shows, and of one that shows none.
func TestP6P7EveryChangeOfAPart(t *testing.T) {
	m := tall()
	for _, shown := range askedOf {
		for _, k := range askedOf {
			both := []api.Key{shown, k}
			for _, value := range []string{"new", xs(70), "", xs(api.MaxValue + 1)} {
				x, p := partOf(t, m, shown)
				p.put(t, x, k, value)
				checkPart(t, x, p, both)
				p.remove(t, x, shown)
				checkPart(t, x, p, both)
			}
			x, p := partOf(t, m, shown, endOf(0x01))
			p.remove(t, x, k)
			checkPart(t, x, p, askedOf)
			p.put(t, x, shown, "new")
			p.remove(t, x, k)
			checkPart(t, x, p, askedOf)
		}
	}
	x, p := partOf(t, m)
	for _, k := range askedOf {
		p.put(t, x, k, "new")
		p.put(t, x, k, "")
		p.remove(t, x, k)
	}
	checkPart(t, x, p, askedOf)
}

// Where a stub and another are left, or two stubs, or a node that is shown, the key goes; where one stub is left alone, it does not.
func TestP6WhatADeleteLeaves(t *testing.T) {
	long := xs(60)
	m := map[api.Key]string{endOf(0x01): long, endOf(0x02): long, endOf(0x03): long}
	x, p := partOf(t, m, endOf(0x01))
	mustDelete(t, x, endOf(0x01), true)
	delete(p.values, endOf(0x01))
	checkPart(t, x, p, askedOf)
	x, _ = partOf(t, m, endOf(0x01), endOf(0x02))
	mustDelete(t, x, endOf(0x01), true)
	root, whole := x.Root(), x.Whole()
	if had, err := x.Delete(endOf(0x02)); had || err != api.ErrStub {
		t.Errorf("one stub alone would be left: Delete = %v, %d", had, err)
	}
	checkUnchanged(t, "Delete", x, root, whole)
	mustDelete(t, x, endOf(0x04), false)
	mustPut(t, x, endOf(0x04), long)
	mustDelete(t, x, endOf(0x02), true)
	if want := rootOf(t, map[api.Key]string{endOf(0x03): long, endOf(0x04): long}); x.Root() != want {
		t.Errorf("behind a Put and a Delete: Root() = %x, want %x", x.Root(), want)
	}
	x, _ = partOf(t, m, endOf(0x01), endOf(0x02), endOf(0x03))
	mustDelete(t, x, endOf(0x01), true)
	mustDelete(t, x, endOf(0x02), true)
	checkRoot(t, "a leaf that is shown is left", x, leafItem(t, noughts(63, 3), long))
}

// An extension that is shown is joined, though what is below it is a stub.
func TestP6ADeleteLeavesAnExtensionOfAStub(t *testing.T) {
	m := map[api.Key]string{endOf(0x01): xs(60), endOf(0x02): xs(61), keyOf(0x50): xs(62), keyOf(0x00, 0x30): xs(63)}
	x, p := partOf(t, m, keyOf(0x50), keyOf(0x00, 0x30), keyOf(0x00, 0x00, 0x10))
	if len(p.stubs) != 1 || len(p.stubs[0]) != 63 {
		t.Fatalf("stubs behind %x", p.stubs)
	}
	for _, k := range []api.Key{keyOf(0x00, 0x30), keyOf(0x50)} {
		mustDelete(t, x, k, true)
		delete(p.values, k)
		checkPart(t, x, p, askedOf)
	}
	low := branchItem(t, map[byte]api.Item{1: leafItem(t, "", xs(60)), 2: leafItem(t, "", xs(61))})
	checkRoot(t, "an extension of 63 nibbles", x, extItem(t, noughts(63), low))
}

// The stub below an extension is a branch; the extension may be cut anywhere, and at its end no extension is left between.
func TestP6AnExtensionOfAStubIsCut(t *testing.T) {
	m := map[api.Key]string{endOf(0x01): xs(60), endOf(0x02): xs(61)}
	for parting := range 63 {
		x, p := partOf(t, m, keyOf(0x70))
		var k api.Key
		k[parting/2] = 0x10 >> (4 * (parting % 2))
		p.put(t, x, k, "new")
		checkPart(t, x, p, []api.Key{k, endOf(0x01), keyOf(0x70)})
		if got, err := x.Delete(k); parting < 62 && (!got || err != api.OK) || parting == 62 && (got || err != api.ErrStub) {
			t.Errorf("cut behind %d nibbles: Delete = %v, %d", parting, got, err)
		}
	}
}

func TestP7P15DrawnChangesOfParts(t *testing.T) {
	r := rand.New(rand.NewSource(41))
	refused := 0
	for range 60 {
		m, keys := drawnMap(r)
		whole := treeOf(t, m)
		some := keys[:r.Intn(len(keys)+1)]
		x := mustOpen(t, whole.Root(), whole.Witness(some))
		_, p := ways(some...).of(t, m)
		for range 25 {
			k := keys[r.Intn(len(keys))]
			if r.Intn(4) == 0 {
				k = drawn(r)
			}
			if r.Intn(2) == 0 {
				value := xs(1 + r.Intn([]int{3, 12, 40, api.MaxValue}[r.Intn(4)]))
				p.put(t, x, k, value)
				if p.values[k] == value {
					mustPut(t, whole, k, value)
				}
			} else {
				_, before := p.values[k]
				p.remove(t, x, k)
				if _, after := p.values[k]; before && !after {
					mustDelete(t, whole, k, true)
				} else if before {
					refused++
				}
			}
			if x.Root() != whole.Root() {
				t.Fatalf("the part's root is %x, the map's %x", x.Root(), whole.Root())
			}
		}
		checkPart(t, x, p, keys)
		again := mustOpen(t, x.Root(), x.Whole())
		checkPart(t, again, p, keys)
	}
	if refused < 50 {
		t.Errorf("%d Deletes were refused", refused)
	}
}

// Whatever stubs a witness has, what it shows is the map's own.
func TestP15WhateverTheWitness(t *testing.T) {
	r := rand.New(rand.NewSource(42))
	for range 80 {
		m, keys := drawnMap(r)
		whole := treeOf(t, m)
		root := whole.Root()
		v := view{all: true}
		if len(m) > 0 {
			for _, ahead := range hideable(t, byPath(m), "") {
				if r.Intn(4) == 0 {
					v.stubs = append(v.stubs, ahead)
				}
			}
		}
		witness, p := v.of(t, m)
		checkPart(t, mustOpen(t, root, witness), p, keys)
		for range 40 {
			changed := tampered(r, witness)
			x, f := twigs.Open(root, changed)
			if f != (api.Fault{}) {
				continue
			}
			if x.Whole() != changed || x.Root() != root {
				t.Fatalf("Open(%x): Whole() = %x, Root() = %x", changed, x.Whole(), x.Root())
			}
			for _, k := range keys {
				checkOwnAnswer(t, whole, x, k)
			}
		}
	}
}

// checkOwnAnswer sees that a part answers as the map does, or ErrStub. (No two texts with one digest are known, so Extract finds none.)
func checkOwnAnswer(t *testing.T, whole, x *twigs.Tree, k api.Key) {
	t.Helper()
	value, had, err := x.Get(k)
	want, wantHad, _ := whole.Get(k)
	if err != api.ErrStub && (value != want || had != wantHad || err != api.OK) {
		t.Fatalf("Get(%x) = %q, %v, %d, want %q, %v", k, value, had, err, want, wantHad)
	}
	proof, err := x.Prove(k)
	if a, b, one := whole.Extract(k, proof); err == api.OK && (a != "" || b != "" || one) {
		t.Fatalf("Extract(%x) of the part's proof = %x, %x, %v", k, a, b, one)
	}
}

// Verify accepts what Prove gives of a part, with the map's own answer.
func TestP15ProofsOfParts(t *testing.T) {
	r := rand.New(rand.NewSource(43))
	for range 60 {
		m, keys := drawnMap(r)
		x, p := partOf(t, m, keys[:r.Intn(len(keys)+1)]...)
		for _, k := range keys {
			if p.meets(k) {
				continue
			}
			value, had := m[k]
			checkVerify(t, "what Prove gives of a part", rootOf(t, m), k, mustProve(t, x, k), value, had)
		}
	}
}

// The root of a part does not hang on the order in which keys came and went.
func TestP15TheRootOfAPartHangsOnNoOrder(t *testing.T) {
	r := rand.New(rand.NewSource(44))
	m := tall()
	values := maps.Clone(m)
	var keys []api.Key
	for i, k := range []api.Key{keyOf(0x60), keyOf(0x70), endOf(0x02), endOf(0x03), endOf(0x04), keyOf(0x01)} {
		keys = append(keys, k)
		values[k] = xs(1 + 9*i)
	}
	for range 50 {
		x, _ := partOf(t, m, endOf(0x02))
		for _, i := range r.Perm(len(keys)) {
			mustPut(t, x, keyOf(0x80+byte(i)), "other")
			mustPut(t, x, keys[i], values[keys[i]])
		}
		for _, i := range r.Perm(len(keys)) {
			mustDelete(t, x, keyOf(0x80+byte(i)), true)
		}
		if x.Root() != rootOf(t, values) {
			t.Fatalf("Root() = %x, want %x", x.Root(), rootOf(t, values))
		}
	}
}

// Accounts and their own maps, proved by parts.
func TestP15StorageByParts(t *testing.T) {
	address, slot := api.Address{1}, api.Key{7}
	accountKey, slotKey := api.Key(twigs.Digest(string(address[:]))), api.Key(twigs.Digest(string(slot[:])))
	slots := map[api.Key]string{slotKey: "seven", endOf(1): xs(60), endOf(2): xs(60)}
	accounts := map[api.Key]string{endOf(1): xs(60), endOf(2): xs(60)}
	accounts[accountKey] = twigs.EncodeAccount(api.Account{Nonce: 1, Root: rootOf(t, slots)})
	all, _ := partOf(t, accounts, accountKey)
	own, _ := partOf(t, slots, slotKey)
	value, had, f := twigs.VerifyStorage(all.Root(), address, slot, mustProve(t, all, accountKey), mustProve(t, own, slotKey))
	if value != "seven" || !had || f != (api.Fault{}) {
		t.Errorf("VerifyStorage = %q, %v, %+v", value, had, f)
	}
	mustPut(t, own, slotKey, "eight")
	mustPut(t, all, accountKey, twigs.EncodeAccount(api.Account{Nonce: 2, Root: own.Root()}))
	slots[slotKey] = "eight"
	accounts[accountKey] = twigs.EncodeAccount(api.Account{Nonce: 2, Root: rootOf(t, slots)})
	if all.Root() != rootOf(t, accounts) {
		t.Errorf("behind a change in two parts: Root() = %x, want %x", all.Root(), rootOf(t, accounts))
	}
}

func TestP2PartsAreApart(t *testing.T) {
	m := tall()
	whole := treeOf(t, m)
	witness := whole.Witness([]api.Key{endOf(0x02)})
	x, y := mustOpen(t, whole.Root(), witness), mustOpen(t, whole.Root(), witness)
	_, p := ways(endOf(0x02)).of(t, m)
	other := part{values: maps.Clone(m), stubs: p.stubs}
	for _, k := range []api.Key{endOf(0x02), endOf(0x03), keyOf(0x60)} {
		p.put(t, x, k, "new")
		checkPart(t, x, p, askedOf)
		checkPart(t, y, other, askedOf)
		checkPart(t, whole, part{values: m}, askedOf)
	}
	for _, k := range slices.Collect(maps.Keys(m)) {
		mustDelete(t, whole, k, true)
	}
	checkPart(t, x, p, askedOf)
	checkPart(t, y, other, askedOf)
	// An empty map that was opened has nothing in common with another either.
	x, y = mustOpen(t, twigs.New().Root(), "\x00"), mustOpen(t, twigs.New().Root(), "\x00")
	mustPut(t, x, endOf(1), "a")
	checkPart(t, y, part{}, askedOf)
}

func TestP2WitnessesAreNotKept(t *testing.T) {
	m := tall()
	for _, keys := range [][]api.Key{{}, {endOf(0x02)}, {endOf(0x02), keyOf(0x51)}, askedOf} {
		want, p := ways(keys...).of(t, m)
		witness, bytes := ownText(want)
		x := mustOpen(t, rootOf(t, m), witness)
		if witness != want {
			t.Fatal("the witness was written into")
		}
		for i := range bytes {
			bytes[i] ^= 0xff
		}
		checkPart(t, x, p, askedOf)
	}
}

func TestP2WitnessesAreNewMemory(t *testing.T) {
	m := tall()
	x, p := partOf(t, m, endOf(0x02), keyOf(0x51))
	for range 3 {
		for _, text := range []string{x.Whole(), x.Witness([]api.Key{endOf(0x02)}), x.Witness(nil)} {
			clear(unsafe.Slice(unsafe.StringData(text), len(text)))
		}
		value, _, _ := x.Get(endOf(0x02))
		clear(unsafe.Slice(unsafe.StringData(value), len(value)))
		checkPart(t, x, p, askedOf)
	}
}

func TestP2KeysAreNotKeptOrWrittenInto(t *testing.T) {
	m := tall()
	x := treeOf(t, m)
	keys := append(slices.Clone(askedOf), api.Key{9})[:len(askedOf)]
	slices.Reverse(keys)
	before := slices.Clone(keys[:len(keys)+1])
	first := x.Witness(keys[:3])
	want, _ := ways(keys[:3]...).of(t, m)
	if first != want || !slices.Equal(keys[:len(keys)+1], before) {
		t.Errorf("Witness = %x, want %x, or the keys have become %x", first, want, keys)
	}
	clear(keys)
	if again := x.Witness(before[:3]); again != want {
		t.Errorf("once the keys were cleared: Witness = %x, want %x", again, want)
	}
}

// Asking changes nothing, of a part as of a whole.
func TestP2AskingAPartChangesNothing(t *testing.T) {
	x, p := partOf(t, tall(), endOf(0x02))
	for range 3 {
		for _, k := range askedOf {
			x.Witness([]api.Key{k})
			checkAsked(t, x, p, k)
		}
		checkPart(t, x, p, nil)
	}
}
