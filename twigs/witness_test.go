package twigs_test

import (
	"maps"
	"math/rand"
	"slices"
	"strings"
	"testing"

	"twigs/api"
	"twigs/twigs"
)

func TestP11TheEmptyMap(t *testing.T) {
	x := twigs.New()
	for range 2 {
		for _, keys := range [][]api.Key{nil, {}, {endOf(1)}, partings} {
			if got := x.Witness(keys); got != "\x00" {
				t.Errorf("Witness of %d keys = %x", len(keys), got)
			}
		}
		if got := x.Whole(); got != "\x00" {
			t.Errorf("Whole() = %x", got)
		}
		// And again, once something has come and gone.
		mustPut(t, x, endOf(1), "a")
		mustDelete(t, x, endOf(1), true)
	}
}

func TestP11OneKey(t *testing.T) {
	for _, value := range []string{"a", xs(api.MaxValue)} {
		for _, k := range partings {
			x := treeOf(t, map[api.Key]string{k: value})
			want := "\x01\x40" + string(k[:]) + string([]byte{byte(len(value))}) + value
			if got := x.Whole(); got != want {
				t.Errorf("Whole() = %x, want %x", got, want)
			}
			// The way of any key ends at the one leaf.
			for _, other := range partings {
				if got := x.Witness([]api.Key{other}); got != want {
					t.Errorf("Witness(%x) = %x, want %x", other, got, want)
				}
			}
			for _, none := range [][]api.Key{nil, {}} {
				if got := x.Witness(none); got != stubOp(x.Root()) {
					t.Errorf("Witness of no key = %x", got)
				}
			}
		}
	}
}

// The branch and its leaves stand in the extension itself, so they are shown where it is.
func TestP11NodesWithinNodes(t *testing.T) {
	x := treeOf(t, map[api.Key]string{endOf(0x01): "a", endOf(0x02): "b"})
	want := "\x01\x00\x01a" + "\x01\x00\x01b" + "\x03\x06\x00" + "\x02\x3f" + strings.Repeat("\x00", 32)
	for _, k := range []api.Key{endOf(0x01), endOf(0x02), endOf(0x03), endOf(0x11), keyOf(0x50)} {
		if got := x.Witness([]api.Key{k}); got != want {
			t.Errorf("Witness(%x) = %x, want %x", k, got, want)
		}
	}
	if got := x.Whole(); got != want {
		t.Errorf("Whole() = %x, want %x", got, want)
	}
	if got := x.Witness(nil); got != stubOp(x.Root()) {
		t.Errorf("Witness of no key = %x", got)
	}
}

func TestP11WhereAWayEnds(t *testing.T) {
	long := xs(60)
	x := treeOf(t, map[api.Key]string{endOf(0x01): long, endOf(0x02): long, endOf(0x50, 0x01): long, keyOf(0x51): long})
	one := leafItem(t, "", long)
	low := branchItem(t, map[byte]api.Item{1: one, 2: one})
	lowExt := extItem(t, noughts(2), low)
	five := leafItem(t, "\x00\x00\x01", long)
	mid := branchItem(t, map[byte]api.Item{0: lowExt, 5: five})
	midExt := extItem(t, noughts(59), mid)
	far := leafItem(t, "\x01"+noughts(62), long)
	fiveOp, farOp := leafOp("\x00\x00\x01", long), leafOp("\x01"+noughts(62), long)
	for _, c := range []struct {
		what string
		keys []api.Key
		want string
	}{
		{"at its leaf, far down", []api.Key{endOf(0x02)},
			hidden(t, one) + leafOp("", long) + branchOp(1, 2) + extOp(noughts(2)) + hidden(t, five) + branchOp(0, 5) + extOp(noughts(59)) + hidden(t, far) + branchOp(0, 5)},
		{"at its leaf, high up", []api.Key{keyOf(0x51)}, hidden(t, midExt) + farOp + branchOp(0, 5)},
		{"at a leaf with another path", []api.Key{keyOf(0x52)}, hidden(t, midExt) + farOp + branchOp(0, 5)},
		{"at an extension with another path", []api.Key{keyOf(0x01)}, hidden(t, mid) + extOp(noughts(59)) + hidden(t, far) + branchOp(0, 5)},
		{"at a lower one, by the last nibble", []api.Key{endOf(0x11)},
			hidden(t, low) + extOp(noughts(2)) + hidden(t, five) + branchOp(0, 5) + extOp(noughts(59)) + hidden(t, far) + branchOp(0, 5)},
		{"at the root, a branch without such a node", []api.Key{keyOf(0x60)}, hidden(t, midExt) + hidden(t, far) + branchOp(0, 5)},
		{"at a lower branch without such a node", []api.Key{endOf(0x03)},
			hidden(t, one) + hidden(t, one) + branchOp(1, 2) + extOp(noughts(2)) + hidden(t, five) + branchOp(0, 5) + extOp(noughts(59)) + hidden(t, far) + branchOp(0, 5)},
		{"two ways", []api.Key{keyOf(0x51), endOf(0x50, 0x01)},
			hidden(t, lowExt) + fiveOp + branchOp(0, 5) + extOp(noughts(59)) + farOp + branchOp(0, 5)},
	} {
		if got := x.Witness(c.keys); got != c.want {
			t.Errorf("%s: Witness = %x, want %x", c.what, got, c.want)
		}
		again := append(slices.Clone(c.keys), c.keys...)
		slices.Reverse(again)
		if got := x.Witness(again); got != c.want {
			t.Errorf("%s: twice, in another order: Witness = %x, want %x", c.what, got, c.want)
		}
	}
}

// Each nibble has its bit, and its node's operations stand in their order.
func TestP11Branches(t *testing.T) {
	var all, whole string
	x := twigs.New()
	for v := range 16 {
		value := string([]byte{'a' + byte(v)}) + xs(40)
		mustPut(t, x, endOf(byte(v)), value)
		all += leafOp("", value)
		one := treeOf(t, map[api.Key]string{endOf(byte(v)): value, endOf(byte(v) ^ 8): value})
		bits := [2]byte{1 << (v % 8), 1 << (v % 8)}
		if got, want := one.Whole(), leafOp("", value)+leafOp("", value)+"\x03"+string(bits[:])+extOp(noughts(63)); got != want {
			t.Errorf("the nibbles %d and %d: Whole() = %x, want %x", v, v^8, got, want)
		}
	}
	whole = all + "\x03\xff\xff" + extOp(noughts(63))
	if got := x.Whole(); got != whole {
		t.Errorf("Whole() = %x, want %x", got, whole)
	}
}

// A row of odd nibbles ends with four bits 0, not with those of another path.
func TestP11OddAndEvenPaths(t *testing.T) {
	for parting := range 62 {
		var k api.Key
		for i := range k {
			k[i] = 0xab
		}
		path := pathOf(k)
		other := k
		other[parting/2] ^= 0x10 >> (4 * (parting % 2))
		otherPath := pathOf(other)
		x := treeOf(t, map[api.Key]string{k: xs(40), other: xs(41)})
		mine, others := leafOp(path[parting+1:], xs(40)), leafOp(otherPath[parting+1:], xs(41))
		if path[parting] > otherPath[parting] {
			mine, others = others, mine
		}
		want := mine + others + branchOp(path[parting], otherPath[parting])
		if parting > 0 {
			want += extOp(path[:parting])
		}
		if got := x.Whole(); got != want {
			t.Errorf("parted behind %d nibbles: Whole() = %x, want %x", parting, got, want)
		}
	}
}

// A node whose code has 31 bytes is shown where it stands; of one of 32 bytes there is a stub, if no key's way goes there.
func TestP11NodesOfAbout32Bytes(t *testing.T) {
	for _, c := range edgeCases {
		for n := c.short - 1; n <= c.short+2; n++ {
			m := maps.Clone(c.other)
			m[c.key] = xs(n)
			x := treeOf(t, m)
			stub := hidden(t, c.code(t, xs(n)))
			for k := range c.other {
				onWay := slices.Contains(proofOf(t, m, k), codeOf(t, c.code(t, xs(n))))
				got := x.Witness([]api.Key{k})
				if want, _ := ways(k).of(t, m); got != want {
					t.Errorf("%s, with a value of %d bytes: Witness(%x) = %x, want %x", c.what, n, k, got, want)
				}
				if strings.Contains(got, stub) != (n > c.short && !onWay) {
					t.Errorf("%s, with a value of %d bytes: Witness(%x) = %x, and %x is a stub, or is none", c.what, n, k, got, stub)
				}
			}
		}
	}
}

func TestP11DrawnMaps(t *testing.T) {
	r := rand.New(rand.NewSource(21))
	for range 150 {
		m, keys := drawnMap(r)
		x := treeOf(t, m)
		whole, _ := view{all: true}.of(t, m)
		if got := x.Whole(); got != whole {
			t.Fatalf("%v: Whole() = %x, want %x", m, got, whole)
		}
		for range 6 {
			var some []api.Key
			for range r.Intn(5) {
				some = append(some, keys[r.Intn(len(keys))])
			}
			want, _ := ways(some...).of(t, m)
			if got := x.Witness(some); got != want {
				t.Fatalf("%v: Witness(%x) = %x, want %x", m, some, got, want)
			}
		}
		if all := slices.Collect(maps.Keys(m)); len(m) > 0 && x.Witness(all) != whole {
			t.Fatalf("%v: the witness of all keys is not Whole", m)
		}
		if x.Root() != rootOf(t, m) {
			t.Fatalf("%v: behind the witnesses Root() = %x", m, x.Root())
		}
	}
}

// A witness is of the map as it is, whatever was asked of it or came and went before.
func TestP11BehindChanges(t *testing.T) {
	x, m := twigs.New(), map[api.Key]string{}
	for i, k := range slices.Concat(partings, partings) {
		if i%5 == 4 {
			_, had := m[k]
			mustDelete(t, x, k, had)
			delete(m, k)
		} else {
			m[k] = xs(1 + 4*i)
			mustPut(t, x, k, m[k])
		}
		if want, _ := (view{all: true}).of(t, m); x.Whole() != want {
			t.Fatalf("behind change %d: Whole() = %x, want %x", i, x.Whole(), want)
		}
		for _, other := range partings {
			if want, _ := ways(other).of(t, m); x.Witness([]api.Key{other}) != want {
				t.Fatalf("behind change %d: Witness(%x) = %x, want %x", i, other, x.Witness([]api.Key{other}), want)
			}
		}
	}
}

// In a witness of a part stubs stay stubs, on a key's way too, and more may be hidden.
func TestP11WitnessesOfParts(t *testing.T) {
	r := rand.New(rand.NewSource(22))
	for range 100 {
		m, keys := drawnMap(r)
		some := keys[:r.Intn(len(keys))]
		x, p := partOf(t, m, some...)
		if want := p.showing(t, view{all: true}); x.Whole() != want {
			t.Fatalf("Whole() = %x, want %x", x.Whole(), want)
		}
		for range 5 {
			others := []api.Key{keys[r.Intn(len(keys))], keys[r.Intn(len(keys))]}[:r.Intn(3)]
			if got, want := x.Witness(others), p.showing(t, ways(others...)); got != want {
				t.Fatalf("%v, of which %x is shown: Witness(%x) = %x, want %x", m, some, others, got, want)
			}
		}
	}
}

func TestP11OfAStubAlone(t *testing.T) {
	root := rootOf(t, map[api.Key]string{endOf(1): "a"})
	x := mustOpen(t, root, stubOp(root))
	for _, keys := range [][]api.Key{nil, {endOf(1)}, partings} {
		if got := x.Witness(keys); got != stubOp(root) {
			t.Errorf("Witness of %d keys = %x", len(keys), got)
		}
	}
	if got := x.Whole(); got != stubOp(root) {
		t.Errorf("Whole() = %x", got)
	}
}
