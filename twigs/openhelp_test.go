package twigs_test

import (
	"math/rand"
	"testing"

	"twigs/api"
	"twigs/twigs"
)

// made is a node that a witness has made: the reference to it, its code, and how far down each thing in it ends or stands.
type made struct {
	kind      byte
	reference api.Item
	code      string
	places    []place
}

type place struct {
	kind byte
	at   int
}

// lower gives the places of a node that comes to stand behind more nibbles.
func lower(places []place, by int) []place {
	var all []place
	for _, p := range places {
		all = append(all, place{p.kind, p.at + by})
	}
	return all
}

func madeOf(t *testing.T, kind byte, x api.Item, places []place) made {
	t.Helper()
	return made{kind: kind, reference: refTo(t, x), code: codeOf(t, x), places: places}
}

// readRow reads a row of nibbles, from its number on. Its errors are told apart: it is not whole, or bits stand where 0 must.
func readRow(rest string) (path string, size int, whole, clean bool) {
	if len(rest) < 1 || len(rest) < 1+(int(rest[0])+1)/2 {
		return "", 0, false, false
	}
	count := int(rest[0])
	size = 1 + (count+1)/2
	for _, b := range []byte(rest[1:size]) {
		path += string([]byte{b / 16, b % 16})
	}
	return path[:count], size, true, path[count:] == "" || path[count:] == "\x00"
}

// stackByWords carries out one operation, word by word as the document has it. It gives the stack behind it and the operation's size, or an error.
func stackByWords(t *testing.T, stack []made, rest string) ([]made, int, api.Errno) {
	t.Helper()
	switch rest[0] {
	case 0:
		return append(stack, made{kind: 0, code: "\x80"}), 1, api.OK
	case 1:
		path, size, whole, clean := readRow(rest[1:])
		if !whole || len(rest) < size+2 || len(rest) < size+2+int(rest[size+1]) {
			return nil, 0, api.ErrShort
		}
		value := rest[size+2:][:rest[size+1]]
		if len(path) > 64 || len(value) < 1 || len(value) > api.MaxValue || !clean {
			return nil, 0, api.ErrNode
		}
		return append(stack, madeOf(t, 1, leafItem(t, path, value), []place{{1, len(path)}})), size + 2 + len(value), api.OK
	case 2:
		path, size, whole, clean := readRow(rest[1:])
		if !whole {
			return nil, 0, api.ErrShort
		}
		if len(path) < 1 || len(path) > 63 || !clean {
			return nil, 0, api.ErrNode
		}
		if len(stack) < 1 {
			return nil, 0, api.ErrStack
		}
		stack, top := stack[:len(stack)-1], stack[len(stack)-1]
		if top.kind != 3 && top.kind != 4 {
			return nil, 0, api.ErrNode
		}
		x := list(pathItem(t, path, false), top.reference)
		return append(stack, madeOf(t, 2, x, append(lower(top.places, len(path)), place{2, len(path)}))), size + 1, api.OK
	case 3:
		return branchByWords(t, stack, rest)
	case 4:
		if len(rest) < 33 {
			return nil, 0, api.ErrShort
		}
		return append(stack, made{kind: 4, reference: text(rest[1:33])}), 33, api.OK
	}
	return nil, 0, api.ErrOp
}

func branchByWords(t *testing.T, stack []made, rest string) ([]made, int, api.Errno) {
	t.Helper()
	if len(rest) < 3 {
		return nil, 0, api.ErrShort
	}
	var nibbles []int
	for v := range 16 {
		if rest[1+v/8]>>(v%8)%2 == 1 {
			nibbles = append(nibbles, v)
		}
	}
	if len(nibbles) < 2 {
		return nil, 0, api.ErrNode
	}
	if len(stack) < len(nibbles) {
		return nil, 0, api.ErrStack
	}
	taken := stack[len(stack)-len(nibbles):]
	x := list(make([]api.Item, 17)...)
	places := []place{{3, 0}}
	for i, v := range nibbles {
		if taken[i].kind == 0 {
			return nil, 0, api.ErrNode
		}
		x.Items[v] = taken[i].reference
		places = append(places, lower(taken[i].places, 1)...)
	}
	return append(stack[:len(stack)-len(nibbles):len(stack)-len(nibbles)], madeOf(t, 3, x, places)), 3, api.OK
}

// openByWords is Open, word by word as the document has it, but for the last error: it gives the root that the tree has.
func openByWords(t *testing.T, witness string) (api.Hash, api.Fault) {
	t.Helper()
	if len(witness) > api.MaxWitness {
		return api.Hash{}, api.Fault{Err: api.ErrLong}
	}
	var stack []made
	for at := 0; at < len(witness); {
		next, size, err := stackByWords(t, stack, witness[at:])
		if err != api.OK {
			return api.Hash{}, api.Fault{Err: err, At: at}
		}
		stack, at = next, at+size
	}
	if len(stack) != 1 {
		return api.Hash{}, api.Fault{Err: api.ErrStack, At: len(witness)}
	}
	for _, p := range stack[0].places {
		if p.kind == 1 && p.at != 64 || p.at > 63 && p.kind != 1 {
			return api.Hash{}, api.Fault{Err: api.ErrNode, At: len(witness)}
		}
	}
	if stack[0].kind == 4 {
		return api.Hash([]byte(stack[0].reference.Text)), api.Fault{}
	}
	return twigs.Digest(stack[0].code), api.Fault{}
}

// checkOpenFault sees with what fault Open ends, and that there is no tree beside it.
func checkOpenFault(t *testing.T, what string, root api.Hash, witness string, want api.Fault) {
	t.Helper()
	if x, f := twigs.Open(root, witness); x != nil || f != want {
		t.Errorf("%s: Open(%.80x) = %v, %+v, want %+v", what, witness, x != nil, f, want)
	}
}

// checkWitness sees that Open says of a witness what the document's words say. It gives the tree, if there is one.
func checkWitness(t *testing.T, witness string) *twigs.Tree {
	t.Helper()
	root, want := openByWords(t, witness)
	if want != (api.Fault{}) {
		checkOpenFault(t, "by the document's words", root, witness, want)
		return nil
	}
	other := root
	other[31] ^= 1
	checkOpenFault(t, "another root", other, witness, api.Fault{Err: api.ErrDigest, At: len(witness)})
	x := mustOpen(t, root, witness)
	if x.Root() != root || x.Whole() != witness {
		t.Fatalf("Open(%x): Root() = %x, Whole() = %x, want %x", witness, x.Root(), x.Whole(), root)
	}
	return x
}

// drawnOps draws the operations of a node that stands behind so many nibbles; now and then they are none.
func drawnOps(r *rand.Rand, depth int) string {
	wrong := 0
	if r.Intn(60) == 0 {
		wrong = r.Intn(5) - 2
	}
	kind := r.Intn(5)
	switch {
	case kind == 0 || depth+wrong > 63 && kind < 3 || depth > 66:
		return leafOp(drawnPath(r, max(0, 64-depth+wrong)), xs(1+r.Intn(45)))
	case kind == 1 && depth < 62:
		path := drawnPath(r, 1+r.Intn(63-depth)+max(wrong, 0))
		return drawnFork(r, depth+len(path)) + extOp(path)
	case kind == 2:
		return drawnStub(r)
	}
	return drawnFork(r, depth)
}

func drawnPath(r *rand.Rand, count int) string {
	path := make([]byte, count)
	for i := range path {
		path[i] = byte(r.Intn(2))
	}
	return string(path)
}

func drawnStub(r *rand.Rand) string {
	var h api.Hash
	r.Read(h[:])
	return stubOp(h)
}

// drawnFork draws the operations of a branch, or of a stub.
func drawnFork(r *rand.Rand, depth int) string {
	if r.Intn(4) == 0 {
		return drawnStub(r)
	}
	all, first := "", byte(r.Intn(3))
	nibbles := []byte{first, first + 1, 9}[:2+r.Intn(2)]
	for range nibbles {
		all += drawnOps(r, depth+1)
	}
	return all + branchOp(nibbles...)
}

// tampered gives a witness in which something was changed.
func tampered(r *rand.Rand, witness string) string {
	at := r.Intn(len(witness))
	to := at + r.Intn(len(witness)-at)
	switch r.Intn(7) {
	case 0:
		return witness[:at]
	case 1:
		return witness[:at] + string([]byte{witness[at] ^ 1<<r.Intn(8)}) + witness[at+1:]
	case 2:
		return witness[:at] + string([]byte{byte(r.Intn(6))}) + witness[at+1:]
	case 3:
		return witness[:at] + witness[to:]
	case 4:
		return witness + witness[at:to]
	case 5:
		return witness[at:]
	}
	return witness[:at] + []string{"\x00", extOp("\x01"), branchOp(0, 1), leafOp("", "a"), stubOp(api.Hash{1})}[r.Intn(5)] + witness[at:]
}
