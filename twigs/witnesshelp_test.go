package twigs_test

import (
	"maps"
	"slices"
	"strings"
	"testing"

	"twigs/api"
	"twigs/twigs"
)

// The operations of a witness, byte by byte as the document has them.

func rowOp(path string) string {
	packed := []byte{byte(len(path))}
	if len(path)%2 == 1 {
		path += "\x00"
	}
	for i := 0; i < len(path); i += 2 {
		packed = append(packed, 16*path[i]+path[i+1])
	}
	return string(packed)
}

func leafOp(path, value string) string {
	return "\x01" + rowOp(path) + string([]byte{byte(len(value))}) + value
}

func extOp(path string) string { return "\x02" + rowOp(path) }

func branchOp(nibbles ...byte) string {
	var low, high byte
	for _, v := range nibbles {
		if v < 8 {
			low += 1 << v
		} else {
			high += 1 << (v - 8)
		}
	}
	return string([]byte{3, low, high})
}

func stubOp(h api.Hash) string { return "\x04" + string(h[:]) }

// hidden is the stub of the node that has this item.
func hidden(t *testing.T, x api.Item) string {
	t.Helper()
	return stubOp(twigs.Digest(codeOf(t, x)))
}

// part is what is known of a part of a map: all that the map has, and behind which nibbles the stubs stand. They stay there, whatever is put and deleted, since nothing below them can be, and no branch can be left with one alone.
type part struct {
	values map[api.Key]string
	stubs  []string
}

// meets tells whether a key's way meets a stub.
func (p part) meets(k api.Key) bool {
	return slices.ContainsFunc(p.stubs, func(stub string) bool { return strings.HasPrefix(pathOf(k), stub) })
}

// leavesStub tells whether the branch of a key that has a value would be left with one stub alone, if the key were deleted.
func (p part) leavesStub(k api.Key) bool {
	path, ahead := pathOf(k), 0
	for other := range p.values {
		for n := ahead + 1; other != k && n < 64 && strings.HasPrefix(pathOf(other), path[:n]); n++ {
			ahead = n
		}
	}
	var left []string
	for other := range p.values {
		if o := pathOf(other); other != k && strings.HasPrefix(o, path[:ahead]) && !slices.Contains(left, o[:ahead+1]) {
			left = append(left, o[:ahead+1])
		}
	}
	return len(left) == 1 && slices.Contains(p.stubs, left[0])
}

// view says which nodes a witness shows: all, or those on the ways of some paths; none behind the nibbles where stubs stand.
type view struct {
	all   bool
	ways  []string
	stubs []string
}

func (v view) shows(ahead, code string) bool {
	if slices.Contains(v.stubs, ahead) {
		return false
	}
	onWay := func(way string) bool { return strings.HasPrefix(way, ahead) }
	return v.all || len(code) < 32 || slices.ContainsFunc(v.ways, onWay)
}

// leads gives the nibbles that lead to the nodes below the one that has this item and these paths.
func leads(x api.Item, values map[string]string) []string {
	if len(values) == 1 {
		return nil
	}
	if len(x.Items) == 2 {
		path, _, _ := twigs.Unpack(x.Items[0].Text)
		return []string{path}
	}
	var all []string
	for nibble := range 16 {
		by := string([]byte{byte(nibble)})
		if len(behindPath(values, by)) > 0 {
			all = append(all, by)
		}
	}
	return all
}

// operations gives those of the node of some paths behind these nibbles, word by word as the document has it, and behind which nibbles there are stubs.
func (v view) operations(t *testing.T, values map[string]string, ahead string) (string, []string) {
	t.Helper()
	x := nodeItem(t, values)
	if !v.shows(ahead, codeOf(t, x)) {
		return hidden(t, x), []string{ahead}
	}
	var all string
	var stubs []string
	by := leads(x, values)
	for _, nibbles := range by {
		below, more := v.operations(t, behindPath(values, nibbles), ahead+nibbles)
		all, stubs = all+below, append(stubs, more...)
	}
	switch len(by) {
	case 0:
		path := slices.Collect(maps.Keys(values))[0]
		return leafOp(path, values[path]), nil
	case 1:
		return all + extOp(by[0]), stubs
	}
	return all + branchOp([]byte(strings.Join(by, ""))...), stubs
}

// hideable gives the nibbles behind which the nodes stand that may be stubs: those whose code has 32 bytes or more.
func hideable(t *testing.T, values map[string]string, ahead string) []string {
	t.Helper()
	x := nodeItem(t, values)
	var all []string
	if len(codeOf(t, x)) >= 32 {
		all = append(all, ahead)
	}
	for _, by := range leads(x, values) {
		all = append(all, hideable(t, behindPath(values, by), ahead+by)...)
	}
	return all
}

// of gives the witness of a map, and the part that it shows.
func (v view) of(t *testing.T, m map[api.Key]string) (string, part) {
	t.Helper()
	if len(m) == 0 {
		return "\x00", part{values: map[api.Key]string{}}
	}
	witness, stubs := v.operations(t, byPath(m), "")
	return witness, part{values: maps.Clone(m), stubs: stubs}
}

// ways is the view of some keys' ways.
func ways(keys ...api.Key) view {
	var v view
	for _, k := range keys {
		v.ways = append(v.ways, pathOf(k))
	}
	return v
}

// showing gives what a witness of a part must be.
func (p part) showing(t *testing.T, v view) string {
	t.Helper()
	v.stubs = p.stubs
	witness, _ := v.of(t, p.values)
	return witness
}

func mustOpen(t *testing.T, root api.Hash, witness string) *twigs.Tree {
	t.Helper()
	x, f := twigs.Open(root, witness)
	if x == nil || f != (api.Fault{}) {
		t.Fatalf("Open(%x, %x) = %v, %+v", root, witness, x != nil, f)
	}
	return x
}

// partOf opens the witness of some keys' ways.
func partOf(t *testing.T, m map[api.Key]string, keys ...api.Key) (*twigs.Tree, part) {
	t.Helper()
	witness, p := ways(keys...).of(t, m)
	return mustOpen(t, rootOf(t, m), witness), p
}

// checkUnchanged sees that a tree is as it was.
func checkUnchanged(t *testing.T, what string, x *twigs.Tree, root api.Hash, whole string) {
	t.Helper()
	if x.Root() != root || x.Whole() != whole {
		t.Fatalf("%s: with an error the tree has changed: Root() = %x, Whole() = %x", what, x.Root(), x.Whole())
	}
}

// checkAsked sees that a tree tells of a key what is known of the part.
func checkAsked(t *testing.T, x *twigs.Tree, p part, k api.Key) {
	t.Helper()
	want, wantHad, wantErr := p.values[k], false, api.OK
	_, wantHad = p.values[k]
	var wantProof []string
	if p.meets(k) {
		want, wantHad, wantErr = "", false, api.ErrStub
	} else {
		wantProof = proofOf(t, p.values, k)
	}
	if value, had, err := x.Get(k); value != want || had != wantHad || err != wantErr {
		t.Fatalf("Get(%x) = %q, %v, %d, want %q, %v, %d", k, value, had, err, want, wantHad, wantErr)
	}
	if proof, err := x.Prove(k); !slices.Equal(proof, wantProof) || err != wantErr || err != api.OK && proof != nil {
		t.Fatalf("Prove(%x) = %x, %d, want %x, %d", k, proof, err, wantProof, wantErr)
	}
	wantOwn, wantOther := "", ""
	if !p.meets(k) {
		wantOwn, wantOther = append(wantProof, "\x80")[0], "x"
	}
	if own, other, one := x.Extract(k, []string{"x"}); own != wantOwn || other != wantOther || one {
		t.Fatalf("Extract(%x) = %x, %x, %v, want %x, %x", k, own, other, one, wantOwn, wantOther)
	}
	if own, other, one := x.Extract(k, proofOf(t, p.values, k)); own != "" || other != "" || one {
		t.Fatalf("Extract(%x) of the map's proof = %x, %x, %v", k, own, other, one)
	}
}

// checkPart sees that a tree is the part that it must be.
func checkPart(t *testing.T, x *twigs.Tree, p part, keys []api.Key) {
	t.Helper()
	if x.Root() != rootOf(t, p.values) {
		t.Fatalf("Root() = %x, want %x", x.Root(), rootOf(t, p.values))
	}
	if want := p.showing(t, view{all: true}); x.Whole() != want {
		t.Fatalf("Whole() = %x, want %x", x.Whole(), want)
	}
	for _, k := range keys {
		checkAsked(t, x, p, k)
	}
}

// put puts into a tree and into what is known of it, and sees that the answer is right.
func (p part) put(t *testing.T, x *twigs.Tree, k api.Key, value string) {
	t.Helper()
	root, whole, want := x.Root(), x.Whole(), api.OK
	if len(value) < 1 || len(value) > api.MaxValue {
		want = api.ErrValue
	} else if p.meets(k) {
		want = api.ErrStub
	} else {
		p.values[k] = value
	}
	if err := x.Put(k, value); err != want {
		t.Fatalf("Put(%x, %q) = %d, want %d", k, value, err, want)
	}
	if want != api.OK {
		checkUnchanged(t, "Put", x, root, whole)
	}
}

// remove deletes from a tree and from what is known of it, and sees that the answer is right.
func (p part) remove(t *testing.T, x *twigs.Tree, k api.Key) {
	t.Helper()
	root, whole, wantErr := x.Root(), x.Whole(), api.OK
	_, want := p.values[k]
	if p.meets(k) || want && p.leavesStub(k) {
		want, wantErr = false, api.ErrStub
	}
	if had, err := x.Delete(k); had != want || err != wantErr {
		t.Fatalf("Delete(%x) = %v, %d, want %v, %d", k, had, err, want, wantErr)
	}
	if want {
		delete(p.values, k)
	} else {
		checkUnchanged(t, "Delete", x, root, whole)
	}
}
