package twigs_test

import (
	"encoding/hex"
	"maps"
	"math/rand"
	"slices"
	"strings"
	"testing"
	"unsafe"

	"twigs/api"
	"twigs/twigs"
)

// partings are keys that part at the first nibble, at the second, in the middle (at both nibbles of a byte) and at the last two.
var partings = []api.Key{
	keyOf(), keyOf(0x10), keyOf(0xf0), keyOf(0x01),
	keyOf(0, 0, 0, 0, 0, 0x10), keyOf(0, 0, 0, 0, 0, 0x01), keyOf(0, 0, 0, 0, 0, 0x01, 0xff),
	endOf(0x10), endOf(0x01), endOf(0x0f), endOf(0x1f), endOf(0x80, 0x0f),
}

func TestP6TheEmptyMap(t *testing.T) {
	x := twigs.New()
	if x == nil {
		t.Fatal("New() = nil")
	}
	checkGet(t, x, nil, partings)
	for _, k := range partings {
		mustDelete(t, x, k, false)
	}
	if x.Root() != twigs.Digest("\x80") {
		t.Errorf("Root() = %x", x.Root())
	}
}

func TestP6OneKey(t *testing.T) {
	for i, k := range partings {
		x := twigs.New()
		mustPut(t, x, k, "a")
		checkGet(t, x, map[api.Key]string{k: "a"}, partings)
		checkRoot(t, "one key", x, leafItem(t, pathOf(k), "a"))
		mustPut(t, x, k, "another")
		checkGet(t, x, map[api.Key]string{k: "another"}, partings)
		checkRoot(t, "another value", x, leafItem(t, pathOf(k), "another"))
		mustDelete(t, x, partings[(i+1)%len(partings)], false)
		checkRoot(t, "another key deleted", x, leafItem(t, pathOf(k), "another"))
		mustDelete(t, x, k, true)
		checkGet(t, x, nil, partings)
		if x.Root() != twigs.Digest("\x80") {
			t.Errorf("behind the last Delete Root() = %x", x.Root())
		}
		mustDelete(t, x, k, false)
	}
}

func TestP6LengthsOfValues(t *testing.T) {
	x, m := twigs.New(), map[api.Key]string{}
	for n := range 2*api.MaxValue + 100 {
		k := endOf(byte(n>>8), byte(n))
		want := api.OK
		if n < 1 || n > api.MaxValue {
			want = api.ErrValue
		} else {
			m[k] = xs(n)
		}
		if err := x.Put(k, xs(n)); err != want {
			t.Errorf("a value of %d bytes: %d, want %d", n, err, want)
		}
		checkGet(t, x, m, []api.Key{k})
	}
	if x.Root() != rootOf(t, m) {
		t.Errorf("Root() = %x", x.Root())
	}
}

func TestP6ValuesOfAnyBytes(t *testing.T) {
	for v := range 256 {
		m := map[api.Key]string{endOf(1): string([]byte{byte(v)}), endOf(2): string([]byte{byte(v), 0})}
		x := treeOf(t, m)
		checkGet(t, x, m, partings)
		if x.Root() != rootOf(t, m) {
			t.Errorf("values of the byte %d: Root() = %x", v, x.Root())
		}
	}
}

func TestP1WithAWrongValueNothingChanges(t *testing.T) {
	m := map[api.Key]string{}
	for _, k := range partings {
		x := treeOf(t, m)
		before := x.Root()
		for _, other := range partings {
			for _, value := range []string{"", xs(api.MaxValue + 1), xs(100000)} {
				if err := x.Put(other, value); err != api.ErrValue {
					t.Errorf("Put of %d bytes = %d, want %d", len(value), err, api.ErrValue)
				}
			}
		}
		checkGet(t, x, m, partings)
		if x.Root() != before {
			t.Errorf("a wrong value changed the root of %d keys", len(m))
		}
		m[k] = "a"
	}
}

// Where a way ends: in a leaf or an extension with another path, at a branch without such a node.
func TestP6DeletingAKeyThatIsNotThere(t *testing.T) {
	for i := range partings {
		for j := range partings {
			m := map[api.Key]string{partings[i]: "a", partings[j]: xs(40)}
			x := treeOf(t, m)
			before := x.Root()
			for _, k := range partings {
				if _, had := m[k]; !had {
					mustDelete(t, x, k, false)
				}
			}
			checkGet(t, x, m, partings)
			if x.Root() != before {
				t.Errorf("deleting what is not there changed the root of %x, %x", partings[i], partings[j])
			}
		}
	}
}

func TestP7ShapesByHand(t *testing.T) {
	x := twigs.New()
	mustPut(t, x, endOf(0x01), "a")
	mustPut(t, x, endOf(0x02), "b")
	two := "\xd5\x80\xc2\x20a\xc2\x20b" + strings.Repeat("\x80", 14)
	whole := "\xf7\xa0\x10" + strings.Repeat("\x00", 31) + two
	if x.Root() != twigs.Digest(whole) {
		t.Errorf("two keys that part at the last nibble: Root() = %x", x.Root())
	}
	mustPut(t, x, endOf(0x11), "c")
	// The extension is cut at its end, and there is none below the new branch.
	three := "\xe8" + two + "\xc2\x31c" + strings.Repeat("\x80", 15)
	h := twigs.Digest(three)
	whole = "\xf8\x42\xa0\x00" + strings.Repeat("\x00", 31) + "\xa0" + string(h[:])
	if x.Root() != twigs.Digest(whole) {
		t.Errorf("a branch in a branch: Root() = %x", x.Root())
	}
	mustDelete(t, x, endOf(0x11), true)
	mustPut(t, x, keyOf(0x50), "d")
	twoItem := branchItem(t, map[byte]api.Item{1: leafItem(t, "", "a"), 2: leafItem(t, "", "b")})
	checkRoot(t, "parted at the first nibble", x, branchItem(t, map[byte]api.Item{0: extItem(t, noughts(62), twoItem), 5: leafItem(t, noughts(63), "d")}))
	mustDelete(t, x, keyOf(0x50), true)
	mustPut(t, x, keyOf(0, 0, 0, 0x07), "e")
	checkRoot(t, "parted in the middle", x, extItem(t, noughts(7), branchItem(t, map[byte]api.Item{0: extItem(t, noughts(55), twoItem), 7: leafItem(t, noughts(56), "e")})))
}

// What is left of a branch with one node is joined to it, and to the extension above.
func TestP7WhatIsLeftOfABranch(t *testing.T) {
	x := treeOf(t, map[api.Key]string{endOf(0x01): "a", endOf(0x02): "b", endOf(0x31): "c"})
	two := branchItem(t, map[byte]api.Item{1: leafItem(t, "", "a"), 2: leafItem(t, "", "b")})
	mustDelete(t, x, endOf(0x31), true)
	checkRoot(t, "a branch is left, below an extension", x, extItem(t, noughts(63), two))
	mustPut(t, x, keyOf(0x50), "d")
	mustPut(t, x, keyOf(0x60), "e")
	mustDelete(t, x, keyOf(0x50), true)
	checkRoot(t, "two are left", x, branchItem(t, map[byte]api.Item{0: extItem(t, noughts(62), two), 6: leafItem(t, noughts(63), "e")}))
	mustDelete(t, x, keyOf(0x60), true)
	checkRoot(t, "an extension is left, below nothing", x, extItem(t, noughts(63), two))
	mustPut(t, x, keyOf(0, 0x50), "d")
	mustDelete(t, x, keyOf(0, 0x50), true)
	checkRoot(t, "an extension is left, below another", x, extItem(t, noughts(63), two))
	mustDelete(t, x, endOf(0x02), true)
	checkRoot(t, "a leaf is left, below an extension", x, leafItem(t, noughts(63, 1), "a"))
	x = treeOf(t, map[api.Key]string{keyOf(0x51): "a", keyOf(0x52): "b", keyOf(0x61): "c"})
	mustDelete(t, x, keyOf(0x61), true)
	checkRoot(t, "a branch is left, below nothing", x, extItem(t, "\x05", branchItem(t, map[byte]api.Item{1: leafItem(t, noughts(62), "a"), 2: leafItem(t, noughts(62), "b")})))
}

// edgeCases have a node whose code has 31 bytes with the shorter value, 32 with the longer.
var edgeCases = []struct {
	what  string
	other map[api.Key]string
	key   api.Key
	short int
	code  func(t *testing.T, value string) api.Item
}{
	{"a leaf without a path", map[api.Key]string{endOf(2): "b"}, endOf(1), 28,
		func(t *testing.T, value string) api.Item { return leafItem(t, "", value) }},
	{"a leaf with a path", map[api.Key]string{endOf(0x20): "b"}, endOf(0x11), 28,
		func(t *testing.T, value string) api.Item { return leafItem(t, "\x01", value) }},
	{"a branch", map[api.Key]string{endOf(2): "b", endOf(0x11): "c"}, endOf(1), 9,
		func(t *testing.T, value string) api.Item {
			return branchItem(t, map[byte]api.Item{1: leafItem(t, "", value), 2: leafItem(t, "", "b")})
		}},
	{"an extension", map[api.Key]string{endOf(0, 2): "b", endOf(1, 0): "c"}, endOf(0, 1), 7,
		func(t *testing.T, value string) api.Item {
			return extItem(t, "\x00", branchItem(t, map[byte]api.Item{1: leafItem(t, "", value), 2: leafItem(t, "", "b")}))
		}},
}

func TestP7NodesOfAbout32Bytes(t *testing.T) {
	for _, c := range edgeCases {
		for n := 1; n <= api.MaxValue; n++ {
			m := maps.Clone(c.other)
			m[c.key] = xs(n)
			if size := len(codeOf(t, c.code(t, xs(n)))); (size < 32) != (n <= c.short) || n == c.short && size != 31 || n == c.short+1 && size != 32 {
				t.Fatalf("%s, with a value of %d bytes, has %d", c.what, n, size)
			}
			if x := treeOf(t, m); x.Root() != rootOf(t, m) {
				t.Errorf("%s, with a value of %d bytes: Root() = %x", c.what, n, x.Root())
			}
		}
	}
}

// These roots were not worked out by this program.
func TestP7KnownRoots(t *testing.T) {
	for _, c := range []struct {
		root   string
		values map[string]string
	}{
		{"56e81f171bcc55a6ff8345e692c0f86e5b48e01b996cadc001622fb5e363b421", nil},
		{"e9e2935138352776cad724d31c9fa5266a5c593bb97726dd2a908fe6d53284df", map[string]string{"A": strings.Repeat("a", 50)}},
		{"d4cd937e4a4368d7931a9cf51686b7e10abb3dce38a39000fd7902a092b64585", map[string]string{"doe": "reindeer", "dog": "puppy", "dogglesworth": "cat"}},
		{"29b235a58c3c25ab83010c327d5932bcf05324b7d6b1185e650798034783ca9d", map[string]string{"do": "verb", "horse": "stallion", "doge": "coin", "dog": "puppy"}},
	} {
		x := twigs.New()
		for name, value := range c.values {
			mustPut(t, x, api.Key(twigs.Digest(name)), value)
		}
		if got := x.Root(); hex.EncodeToString(got[:]) != c.root {
			t.Errorf("%v: Root() = %x, want %s", c.values, got, c.root)
		}
	}
}

// Every row of up to four Puts and Deletes of a few keys leads to the map that they make.
func TestP6AllShortRowsOfChanges(t *testing.T) {
	keys := []api.Key{endOf(0x01), endOf(0x02), endOf(0x12), keyOf(0, 0x10), keyOf(0x50)}
	type change struct {
		key   api.Key
		value string
	}
	var changes []change
	for _, k := range keys {
		changes = append(changes, change{k, "a"}, change{k, xs(60)}, change{k, ""})
	}
	roots := map[string]api.Hash{}
	for row := range len(changes) * len(changes) * len(changes) * len(changes) {
		x, m := twigs.New(), map[api.Key]string{}
		for ; row > 0; row /= len(changes) {
			c := changes[row%len(changes)]
			if _, had := m[c.key]; c.value == "" {
				mustDelete(t, x, c.key, had)
				delete(m, c.key)
			} else {
				mustPut(t, x, c.key, c.value)
				m[c.key] = c.value
			}
		}
		checkGet(t, x, m, keys)
		name := ""
		for _, k := range keys {
			name += m[k] + " "
		}
		if _, ok := roots[name]; !ok {
			roots[name] = rootOf(t, m)
		}
		if x.Root() != roots[name] {
			t.Fatalf("%v: Root() = %x, want %x", m, x.Root(), roots[name])
		}
	}
}

// drawn gives a key that shares many nibbles with others.
func drawn(r *rand.Rand) api.Key {
	var k api.Key
	for range r.Intn(5) {
		k[[]int{0, 0, 1, 7, 15, 30, 31, 31}[r.Intn(8)]] = byte(r.Intn(4) * []int{1, 16, 17, 85}[r.Intn(4)])
	}
	return k
}

func TestP6P7DrawnChanges(t *testing.T) {
	r := rand.New(rand.NewSource(7))
	for range 60 {
		x, m := twigs.New(), map[api.Key]string{}
		var keys []api.Key
		for range 120 {
			k := drawn(r)
			keys = append(keys, k)
			if _, had := m[k]; r.Intn(5) < 2 {
				mustDelete(t, x, k, had)
				delete(m, k)
			} else {
				m[k] = xs(1 + r.Intn(api.MaxValue))
				mustPut(t, x, k, m[k])
			}
			if r.Intn(8) == 0 && x.Root() != rootOf(t, m) {
				t.Fatalf("%d keys: Root() = %x", len(m), x.Root())
			}
		}
		checkGet(t, x, m, keys)
		for _, k := range keys {
			_, had := m[k]
			mustDelete(t, x, k, had)
			delete(m, k)
		}
		if x.Root() != twigs.Digest("\x80") {
			t.Fatalf("behind the last Delete Root() = %x", x.Root())
		}
	}
}

func TestP6ManyKeys(t *testing.T) {
	m := map[api.Key]string{}
	for i := range 3000 {
		m[api.Key(twigs.Digest(xs(i)))] = xs(1 + i%api.MaxValue)
	}
	x := treeOf(t, m)
	if x.Root() != rootOf(t, m) {
		t.Fatalf("Root() = %x", x.Root())
	}
	checkGet(t, x, m, slices.Collect(maps.Keys(m)))
	checkGet(t, x, m, partings)
}

func TestP15TheRootHangsOnNoOrder(t *testing.T) {
	m := map[api.Key]string{}
	for i, k := range partings {
		m[k] = xs(1 + 9*i)
	}
	want := rootOf(t, m)
	r := rand.New(rand.NewSource(3))
	for range 200 {
		x, others := twigs.New(), map[api.Key]string{}
		for _, i := range r.Perm(len(partings)) {
			// Other keys come, and other values: all of that goes again.
			k := drawn(r)
			others[k] = "other"
			mustPut(t, x, k, "other")
			mustPut(t, x, partings[i], "other")
			x.Root()
		}
		for _, i := range r.Perm(len(partings)) {
			if i%2 == 0 {
				mustDelete(t, x, partings[i], true)
			}
			mustPut(t, x, partings[i], m[partings[i]])
			delete(others, partings[i])
		}
		for k := range others {
			mustDelete(t, x, k, true)
		}
		if x.Root() != want {
			t.Fatalf("Root() = %x, want %x", x.Root(), want)
		}
	}
}

func TestP2TreesAreApart(t *testing.T) {
	x, y := twigs.New(), twigs.New()
	m := map[api.Key]string{}
	for i, k := range partings {
		m[k] = xs(i + 1)
		mustPut(t, x, k, m[k])
		if i%2 == 0 {
			mustPut(t, y, k, "y")
		}
	}
	root := x.Root()
	for _, k := range partings {
		mustPut(t, y, k, "z")
	}
	for _, k := range partings {
		mustDelete(t, y, k, true)
	}
	checkGet(t, x, m, partings)
	checkGet(t, y, nil, partings)
	if x.Root() != root || root != rootOf(t, m) || y.Root() != twigs.New().Root() {
		t.Errorf("Root() = %x, %x", x.Root(), y.Root())
	}
}

// Root and Get change nothing, however often they are asked.
func TestP2AskingChangesNothing(t *testing.T) {
	m := map[api.Key]string{}
	for i, k := range partings {
		m[k] = xs(i + 1)
	}
	x := treeOf(t, m)
	for range 3 {
		checkGet(t, x, m, partings)
		if x.Root() != rootOf(t, m) {
			t.Fatalf("Root() = %x", x.Root())
		}
	}
}

func TestP2ValuesAreNewMemory(t *testing.T) {
	x := twigs.New()
	given := []byte("value")
	mustPut(t, x, endOf(1), unsafe.String(&given[0], len(given)))
	root := x.Root()
	given[0] = 'x'
	got, _, _ := x.Get(endOf(1))
	if got != "value" {
		t.Fatalf("the value that was handed in is kept: %q", got)
	}
	*unsafe.StringData(got) = 'x'
	if again, _, _ := x.Get(endOf(1)); again != "value" || x.Root() != root {
		t.Errorf("the value that came out is the map's own: %q", again)
	}
}
