package tree

import (
	"errors"
	"strings"
	"testing"

	"twigs/api"
	"twigs/fault"
)

// Each layer wraps what came from within it, and the place is added where it is known.
func TestAnOperationsErrorIsWrapped(t *testing.T) {
	for _, c := range []struct {
		what, witness string
		want          []error
		at            int
	}{
		{"a path's bits", "\x00\x02\x01\x11", []error{fault.Node, fault.Form}, 1},
		{"a path's bits, in a leaf", "\x01\x01\x11\x01a", []error{fault.Node, fault.Form}, 0},
		{"not whole", "\x00\x00\x03", []error{fault.Short}, 2},
		{"no operation", "\x00\x09", []error{fault.Op}, 1},
		{"too few nodes", "\x00\x03\x03\x00", []error{fault.Stack}, 1},
		{"too many nodes", "\x00\x00", []error{fault.Stack}, 2},
		{"another root", "\x00", []error{fault.Digest}, 1},
	} {
		x, err := Open(api.Hash{}, c.witness)
		var place fault.Place
		if x.root != nil || !errors.As(err, &place) || place.At != c.at {
			t.Errorf("%s: %v", c.what, err)
		}
		for _, want := range c.want {
			if !errors.Is(err, want) {
				t.Errorf("%s: %v is not %v", c.what, err, want)
			}
		}
	}
	if _, err := Open(api.Hash{}, strings.Repeat("x", api.MaxWitness+1)); err != fault.Long {
		t.Errorf("too many bytes: %v", err)
	}
}

// What is opened is laid out as what was put.
func TestFormOfWhatIsOpened(t *testing.T) {
	var x Tree
	fill(t, &x, end(1), end(2), end(0x31), api.Key{0x10}, api.Key{0x20})
	opened, err := Open(x.Root(), x.Whole())
	if err != nil {
		t.Fatal(err)
	}
	if leaves := checkForm(t, opened.root, 0); leaves != 5 {
		t.Errorf("%d leaves", leaves)
	}
}

// A witness of all asks for no digest: nothing is worked out that is not needed.
func TestWholeWorksNothingOut(t *testing.T) {
	var x Tree
	fill(t, &x, end(1), end(2))
	x.Whole()
	if top := x.root.(*extension); top.held != "" {
		t.Error("Whole has worked out a digest")
	}
}
