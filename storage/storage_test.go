package storage

import (
	"errors"
	"testing"

	"twigs/api"
	"twigs/digest"
	"twigs/fault"
	"twigs/tree"
)

// What the layers below have found is there to be asked for, with what this one adds.
func TestErrorsOfTheLayersBelow(t *testing.T) {
	var accounts tree.Tree
	address := api.Address{1}
	key := api.Key(digest.Of(string(address[:])))
	if err := accounts.Put(key, "\xc1\x81"); err != nil {
		t.Fatal(err)
	}
	first, err := accounts.Prove(key)
	if err != nil {
		t.Fatal(err)
	}
	_, _, err = Verify(accounts.Root(), address, api.Key{}, first, nil)
	if got, want := err.Error(), "proof 1: node 1: byte 1: "+fault.Short.Error(); got != want || !errors.Is(err, fault.Short) {
		t.Errorf("it reads %q, want %q", got, want)
	}
	_, _, err = Verify(accounts.Root(), address, api.Key{}, []string{"x"}, nil)
	if got, want := err.Error(), "proof 1: node 0: "+fault.Digest.Error(); got != want || !errors.Is(err, fault.Digest) {
		t.Errorf("it reads %q, want %q", got, want)
	}
}
