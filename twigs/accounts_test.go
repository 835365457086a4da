package twigs_test

import (
	"strings"
	"testing"

	"twigs/api"
	"twigs/twigs"
)

// hashes are the codes of a Root and a Code; both are given as digests too.
func hashes() (api.Hash, api.Hash, string) {
	root, code := api.Hash{0, 1}, api.Hash{31: 2}
	return root, code, "\xa0" + string(root[:]) + "\xa0" + string(code[:])
}

func TestP13CodesOfAccounts(t *testing.T) {
	root, code, tail := hashes()
	for _, c := range []struct {
		nonce, balance uint64
		want           string
	}{
		{0, 0, "\xf8\x44\x80\x80" + tail},
		{1, 127, "\xf8\x44\x01\x7f" + tail},
		{128, 255, "\xf8\x46\x81\x80\x81\xff" + tail},
		{256, 0, "\xf8\x46\x82\x01\x00\x80" + tail},
		{1<<56 - 1, 1 << 56, "\xf8\x53\x87" + strings.Repeat("\xff", 7) + "\x88\x01" + strings.Repeat("\x00", 7) + tail},
		{1<<64 - 1, 1<<64 - 1, "\xf8\x54\x88" + strings.Repeat("\xff", 8) + "\x88" + strings.Repeat("\xff", 8) + tail},
	} {
		a := api.Account{Nonce: c.nonce, Balance: c.balance, Root: root, Code: code}
		if got := twigs.EncodeAccount(a); got != c.want {
			t.Errorf("EncodeAccount(%d, %d) = %x, want %x", c.nonce, c.balance, got, c.want)
		}
		if back, f := twigs.DecodeAccount(c.want); back != a || f != (api.Fault{}) {
			t.Errorf("DecodeAccount(%x) = %+v, %+v", c.want, back, f)
		}
	}
}

// ofItems is the code of a list, whether it is an account or not.
func ofItems(t *testing.T, items ...api.Item) string {
	t.Helper()
	code, err := twigs.Encode(list(items...))
	if err != api.OK {
		t.Fatalf("Encode: %d", err)
	}
	return code
}

func TestP13WhatIsNoAccount(t *testing.T) {
	hash, zeros := text(xs(32)), strings.Repeat("\x00", 8)
	for _, c := range []struct {
		name string
		code string
		at   int
	}{
		{"a text", "\x83cat", 0},
		{"the empty list", "\xc0", 0},
		{"three items", ofItems(t, text(""), text(""), hash), 0},
		{"five items", ofItems(t, text(""), text(""), hash, hash, text("")), 0},
		{"an account in a list", ofItems(t, list(text(""), text(""), hash, hash)), 0},
		{"a nonce that begins with 0", ofItems(t, text("\x00"), text(""), hash, hash), 2},
		{"a nonce of nine bytes", ofItems(t, text("\x01"+zeros), text(""), hash, hash), 2},
		{"a nonce that is a list", ofItems(t, list(), text(""), hash, hash), 2},
		{"a balance that begins with 0", ofItems(t, text(""), text("\x00\x01"), hash, hash), 3},
		{"a balance of nine bytes", ofItems(t, text("\x01\x00"), text("\x01"+zeros), hash, hash), 5},
		{"a balance that is a list", ofItems(t, text(""), list(text("")), hash, hash), 3},
		{"a root of 31 bytes", ofItems(t, text(""), text(""), text(xs(31)), hash), 4},
		{"a root of 33 bytes", ofItems(t, text(""), text("\x80"), text(xs(33)), hash), 5},
		{"a root that is a list", ofItems(t, text(""), text(""), list(), hash), 3},
		{"a code without bytes", ofItems(t, text(""), text(""), hash, text("")), 36},
		{"a code that is a list", ofItems(t, text(""), text(""), hash, list(text(xs(31)))), 37},
		{"wrong twice: the first counts", ofItems(t, text(""), text("\x00"), text(""), list()), 2},
		{"more items than fit one byte's head", ofItems(t, make([]api.Item, 70)...), 0},
	} {
		a, f := twigs.DecodeAccount(c.code)
		if a != (api.Account{}) || f != (api.Fault{Err: api.ErrAccount, At: c.at}) {
			t.Errorf("%s: %+v, %+v, want no account at %d", c.name, a, f, c.at)
		}
	}
}

func TestP13WhatDecodeSaysComesFirst(t *testing.T) {
	_, _, tail := hashes()
	for _, code := range []string{
		"", "\x81", "\xc1\x81", "\xc3\x80\x81\x05", "\xf8\x44\x80\x80" + tail + "x", "\xf8\x44\x80\x80" + tail[:65],
		"\xf8\x45\x81\x05\x80" + tail, "\xf8\x44\x00\x80" + tail[:33] + "\xff" + tail[34:],
		"\xc6\xc5\xc4\xc3\xc2\xc1\xc0", xs(api.MaxItem + 1), "\x05\x05",
	} {
		_, want := twigs.Decode(code)
		a, f := twigs.DecodeAccount(code)
		if want == (api.Fault{}) || f != want || a != (api.Account{}) {
			t.Errorf("DecodeAccount(%.40x) = %+v, %+v, want %+v", code, a, f, want)
		}
	}
}

func TestP15WhatDecodeAccountAcceptsIsTheCodeOfWhatItGives(t *testing.T) {
	root, code, _ := hashes()
	whole := twigs.EncodeAccount(api.Account{Nonce: 300, Balance: 7, Root: root, Code: code})
	for i := range len(whole) {
		for v := range 256 {
			changed := whole[:i] + string([]byte{byte(v)}) + whole[i+1:]
			a, f := twigs.DecodeAccount(changed)
			if f == (api.Fault{}) && twigs.EncodeAccount(a) != changed {
				t.Errorf("%x is read as %+v, whose code is another", changed, a)
			}
			if f != (api.Fault{}) && a != (api.Account{}) {
				t.Errorf("%x: %+v beside %+v", changed, a, f)
			}
		}
	}
}
