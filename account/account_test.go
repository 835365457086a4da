package account

import (
	"errors"
	"testing"

	"twigs/api"
	"twigs/fault"
)

func TestErrorsKeepWhatTheyWrap(t *testing.T) {
	_, err := Decode("\xc1\x81")
	var place fault.Place
	if !errors.Is(err, fault.Short) || !errors.As(err, &place) || place.At != 1 {
		t.Errorf("what the items say comes as %v", err)
	}
	_, err = Decode("\xc4\x80\x80\x80\x80")
	if !errors.Is(err, fault.Account) || !errors.As(err, &place) || place.At != 3 {
		t.Errorf("a Root without bytes comes as %v", err)
	}
}

func TestEveryNumberOfBytesComesBack(t *testing.T) {
	for shift := range 64 {
		for _, n := range []uint64{1 << shift, 1<<shift - 1} {
			a := api.Account{Nonce: n, Balance: ^n, Root: api.Hash{1}, Code: api.Hash{31: 9}}
			if back, err := Decode(Encode(a)); err != nil || back != a {
				t.Errorf("%+v comes back as %+v, %v", a, back, err)
			}
		}
	}
}
