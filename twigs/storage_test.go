package twigs_test

import (
	"encoding/hex"
	"math/rand"
	"slices"
	"testing"

	"twigs/api"
	"twigs/twigs"
)

// named gives the key under which a map has what an address or a slot names.
func named(name []byte) api.Key { return api.Key(twigs.Digest(string(name))) }

// bank is a map of accounts, of which one has a map of its own.
type bank struct {
	owner, stranger api.Address // one has an account, the other has none
	slot, empty     api.Key     // one has a value, the other has none
	accounts, slots map[api.Key]string
}

func newBank(t *testing.T) bank {
	t.Helper()
	b := bank{owner: api.Address{1, 2, 3}, stranger: api.Address{19: 7}, slot: api.Key{7}, empty: api.Key{31: 1}}
	b.slots = map[api.Key]string{named(b.slot[:]): "value", named([]byte("x")): xs(50), named([]byte("y")): xs(51)}
	b.accounts = map[api.Key]string{named([]byte("a")): xs(60), named([]byte("b")): xs(61), named([]byte("c")): xs(62)}
	b.have(api.Account{Nonce: 5, Balance: 1000, Root: rootOf(t, b.slots), Code: api.Hash{9}})
	return b
}

// have gives the owner an account.
func (b bank) have(a api.Account) { b.haveCode(twigs.EncodeAccount(a)) }

func (b bank) haveCode(code string) { b.accounts[named(b.owner[:])] = code }

func (b bank) first(t *testing.T, address api.Address) []string {
	t.Helper()
	return proofOf(t, b.accounts, named(address[:]))
}

func (b bank) second(t *testing.T, slot api.Key) []string {
	t.Helper()
	return proofOf(t, b.slots, named(slot[:]))
}

func checkStorage(t *testing.T, what string, root api.Hash, address api.Address, slot api.Key, first, second []string, value string, had bool, want api.Fault) {
	t.Helper()
	got, gotHad, f := twigs.VerifyStorage(root, address, slot, first, second)
	if got != value || gotHad != had || f != want {
		t.Errorf("%s: VerifyStorage = %q, %v, %+v, want %q, %v, %+v", what, got, gotHad, f, value, had, want)
	}
}

func TestP14WithTheAccount(t *testing.T) {
	b := newBank(t)
	root := rootOf(t, b.accounts)
	checkStorage(t, "a value", root, b.owner, b.slot, b.first(t, b.owner), b.second(t, b.slot), "value", true, api.Fault{})
	checkStorage(t, "no value", root, b.owner, b.empty, b.first(t, b.owner), b.second(t, b.empty), "", false, api.Fault{})
	b.slots = nil
	b.have(api.Account{Root: twigs.New().Root()})
	root = rootOf(t, b.accounts)
	checkStorage(t, "an empty map", root, b.owner, b.slot, b.first(t, b.owner), nil, "", false, api.Fault{})
	checkStorage(t, "an empty map, and a node", root, b.owner, b.slot, b.first(t, b.owner), []string{"\x80"}, "", false, api.Fault{Err: api.ErrNode, Proof: 2})
	b.have(api.Account{})
	root = rootOf(t, b.accounts)
	checkStorage(t, "no map's root", root, b.owner, b.slot, b.first(t, b.owner), nil, "", false, api.Fault{Err: api.ErrShort, Proof: 2})
}

func TestP14WithoutTheAccount(t *testing.T) {
	b := newBank(t)
	root := rootOf(t, b.accounts)
	first := b.first(t, b.stranger)
	checkStorage(t, "no account", root, b.stranger, b.slot, first, nil, "", false, api.Fault{})
	checkStorage(t, "no account, an empty list", root, b.stranger, b.slot, first, []string{}, "", false, api.Fault{})
	rest := api.Fault{Err: api.ErrRest, Proof: 2}
	for _, second := range [][]string{b.second(t, b.slot), first, {""}, {"\x80"}, {xs(api.MaxNode + 1)}} {
		checkStorage(t, "no account, and a second proof", root, b.stranger, b.slot, first, second, "", false, rest)
	}
	none := twigs.New().Root()
	checkStorage(t, "no accounts at all", none, b.owner, b.slot, nil, nil, "", false, api.Fault{})
	checkStorage(t, "no accounts at all, and a second proof", none, b.owner, b.slot, nil, b.second(t, b.slot), "", false, rest)
}

// What Verify says of either proof is told with the number of that proof, the first ahead of the second.
func TestP14WhatVerifySays(t *testing.T) {
	b := newBank(t)
	root := rootOf(t, b.accounts)
	first, second := b.first(t, b.owner), b.second(t, b.slot)
	if len(first) < 2 || len(second) < 2 {
		t.Fatalf("the proofs have %d and %d nodes", len(first), len(second))
	}
	slots := rootOf(t, b.slots)
	r := rand.New(rand.NewSource(17))
	for _, changed := range changedProofs(r, first, second) {
		_, _, want := twigs.Verify(root, named(b.owner[:]), changed)
		if slices.Equal(changed, first) {
			continue
		}
		want.Proof = 1
		for _, other := range [][]string{second, nil, {"\xc1"}} {
			checkStorage(t, "another first proof", root, b.owner, b.slot, changed, other, "", false, want)
		}
	}
	for _, changed := range changedProofs(r, second, first) {
		_, _, want := twigs.Verify(slots, named(b.slot[:]), changed)
		if slices.Equal(changed, second) {
			continue
		}
		want.Proof = 2
		checkStorage(t, "another second proof", root, b.owner, b.slot, first, changed, "", false, want)
	}
}

// Each place in a fault comes from its own layer: the byte, the node, the proof.
func TestP14AllOfAFault(t *testing.T) {
	b := newBank(t)
	low := codeOf(t, list(text("\x20"), list(text("v"))))
	proof, root := leading(t, 1, low[:len(low)-1])
	b.have(api.Account{Root: root})
	accounts := rootOf(t, b.accounts)
	// The slot whose digest begins with the nibble 0.
	slot := api.Key{}
	for named(slot[:])[0] >= 0x10 {
		slot[0]++
	}
	checkStorage(t, "in the second proof", accounts, b.owner, slot, b.first(t, b.owner), proof, "", false, api.Fault{Err: api.ErrShort, Proof: 2, Node: 1})
	low = "\xc3\x20\xc1\x82"
	proof, root = leading(t, 1, low)
	b.have(api.Account{Root: root})
	accounts = rootOf(t, b.accounts)
	checkStorage(t, "at a byte of it", accounts, b.owner, slot, b.first(t, b.owner), proof, "", false, api.Fault{Err: api.ErrShort, Proof: 2, Node: 1, At: 3})
	owner := api.Address{}
	for named(owner[:])[0] >= 0x10 {
		owner[0]++
	}
	checkStorage(t, "at a byte of the first", root, owner, slot, proof, nil, "", false, api.Fault{Err: api.ErrShort, Proof: 1, Node: 1, At: 3})
}

func TestP14ValuesThatAreNoAccounts(t *testing.T) {
	b := newBank(t)
	whole := b.accounts[named(b.owner[:])]
	for _, code := range []string{
		"v", "\x80", "\xc0", "\xc1", "\xc2\x80\x80", whole[:len(whole)-1], whole + "\x80", "\xc3\x80\x81\x05", "\xc6\xc5\xc4\xc3\xc2\xc1\xc0", "\xc7\xc6\xc5\xc4\xc3\xc2\xc1\xc0",
		ofItems(t, text("\x00"), text(""), text(xs(32)), text(xs(32))),
		ofItems(t, text(""), text("\x01"+noughts(8)), text(xs(32)), text(xs(32))),
		ofItems(t, text(""), text(""), text(xs(31)), text(xs(32))),
		ofItems(t, text("\x01"), text("\x80"), text(xs(32)), text("")),
	} {
		b.haveCode(code)
		_, want := twigs.DecodeAccount(code)
		if want == (api.Fault{}) {
			t.Fatalf("%x is an account's code", code)
		}
		first := b.first(t, b.owner)
		want.Proof, want.Node = 1, len(first)
		for _, second := range [][]string{b.second(t, b.slot), nil, {""}} {
			checkStorage(t, hex.EncodeToString([]byte(code)), rootOf(t, b.accounts), b.owner, b.slot, first, second, "", false, want)
		}
	}
}

func TestP14ValuesThatAreNoAccountsByHand(t *testing.T) {
	b := newBank(t)
	for _, c := range []struct {
		code string
		want api.Fault
	}{
		{"\xc2\x80\x80", api.Fault{Err: api.ErrAccount}},
		{"\xc1\x81", api.Fault{Err: api.ErrShort, At: 1}},
		{ofItems(t, text(""), text("\x00"), text(xs(32)), text(xs(32))), api.Fault{Err: api.ErrAccount, At: 3}},
		{ofItems(t, text(""), text(""), text(xs(32)), text(xs(30))), api.Fault{Err: api.ErrAccount, At: 37}},
	} {
		b.haveCode(c.code)
		first := b.first(t, b.owner)
		c.want.Proof, c.want.Node = 1, len(first)
		checkStorage(t, "no account", rootOf(t, b.accounts), b.owner, b.slot, first, nil, "", false, c.want)
		// The account stands alone: its proof has one node.
		b.accounts = map[api.Key]string{named(b.owner[:]): c.code}
		c.want.Node = 1
		checkStorage(t, "no account, alone", rootOf(t, b.accounts), b.owner, b.slot, b.first(t, b.owner), nil, "", false, c.want)
	}
}

// The keys are digests of the address and of the slot, not these themselves.
func TestP14KeysAreDigests(t *testing.T) {
	b := newBank(t)
	raw := map[api.Key]string{b.slot: "raw", named(b.empty[:]): "other"}
	b.have(api.Account{Root: rootOf(t, raw)})
	root := rootOf(t, b.accounts)
	second := proofOf(t, raw, named(b.slot[:]))
	checkStorage(t, "a slot that is not hashed", root, b.owner, b.slot, b.first(t, b.owner), second, "", false, api.Fault{})
	var key api.Key
	copy(key[:], b.owner[:])
	accounts := map[api.Key]string{key: b.accounts[named(b.owner[:])]}
	checkStorage(t, "an address that is not hashed", rootOf(t, accounts), b.owner, b.slot, proofOf(t, accounts, named(b.owner[:])), nil, "", false, api.Fault{})
}

// What VerifyStorage accepts is what the account's map has.
func TestP15WhatVerifyStorageAccepts(t *testing.T) {
	b := newBank(t)
	all, slots := treeOf(t, b.accounts), treeOf(t, b.slots)
	r := rand.New(rand.NewSource(19))
	for _, address := range []api.Address{b.owner, b.stranger} {
		for _, slot := range []api.Key{b.slot, b.empty} {
			first, second := mustProve(t, all, named(address[:])), mustProve(t, slots, named(slot[:]))
			want, wantHad := b.slots[named(slot[:])]
			if address == b.stranger {
				want, wantHad, second = "", false, nil
			}
			checkStorage(t, "what Prove gives", all.Root(), address, slot, first, second, want, wantHad, api.Fault{})
			firsts := append(changedProofs(r, first, mustProve(t, slots, endOf(1))), first)
			seconds := append(changedProofs(r, second, mustProve(t, all, endOf(1))), second)
			for _, p := range firsts {
				for _, q := range seconds {
					value, had, f := twigs.VerifyStorage(all.Root(), address, slot, p, q)
					if f == (api.Fault{}) && (value != want || had != wantHad) || f != (api.Fault{}) && (value != "" || had) {
						t.Fatalf("VerifyStorage = %q, %v, %+v, want %q, %v", value, had, f, want, wantHad)
					}
				}
			}
		}
	}
}

func TestP2StorageProofsAreNotKeptOrWrittenInto(t *testing.T) {
	b := newBank(t)
	root := rootOf(t, b.accounts)
	first := b.first(t, b.owner)
	var second []string
	var bytes [][]byte
	for _, code := range b.second(t, b.slot) {
		s, raw := ownText(code)
		second, bytes = append(second, s), append(bytes, raw)
	}
	for range 2 {
		value, had, f := twigs.VerifyStorage(root, b.owner, b.slot, first, second)
		if !slices.Equal(first, b.first(t, b.owner)) || !slices.Equal(second, b.second(t, b.slot)) {
			t.Fatal("a proof has been written into")
		}
		last := bytes[len(bytes)-1]
		kept := slices.Clone(last)
		clear(last)
		if value != "value" || !had || f != (api.Fault{}) {
			t.Errorf("VerifyStorage = %q, %v, %+v: the value is the proof's own memory", value, had, f)
		}
		copy(last, kept)
	}
}
