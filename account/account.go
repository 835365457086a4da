// Package account has the code of accounts.
package account

import (
	"strings"

	"twigs/api"
	"twigs/fault"
	"twigs/item"
)

const (
	texts       = 4 // of an account
	numberBytes = 8 // that a number may have
)

// Encode gives an account's code.
func Encode(a api.Account) string {
	var code []byte
	code = item.AppendText(code, item.HighestFirst(a.Nonce))
	code = item.AppendText(code, item.HighestFirst(a.Balance))
	code = item.AppendText(code, string(a.Root[:]))
	code = item.AppendText(code, string(a.Code[:]))
	return string(item.AppendList(nil, code))
}

// Decode gives the account that has a code.
func Decode(code string) (api.Account, error) {
	x, err := item.Decode(code)
	if err != nil {
		return api.Account{}, err
	}
	if !x.List || len(x.Items) != texts {
		return api.Account{}, notAt(x)
	}
	return read(x.Items)
}

func read(items []item.Placed) (api.Account, error) {
	nonce, err := readNumber(items[0])
	if err != nil {
		return api.Account{}, err
	}
	balance, err := readNumber(items[1])
	if err != nil {
		return api.Account{}, err
	}
	root, err := readHash(items[2])
	if err != nil {
		return api.Account{}, err
	}
	code, err := readHash(items[3])
	if err != nil {
		return api.Account{}, err
	}
	return api.Account{Nonce: nonce, Balance: balance, Root: root, Code: code}, nil
}

func readNumber(x item.Placed) (uint64, error) {
	if x.List || len(x.Text) > numberBytes || strings.HasPrefix(x.Text, "\x00") {
		return 0, notAt(x)
	}
	return item.Number(x.Text), nil
}

func readHash(x item.Placed) (api.Hash, error) {
	var h api.Hash
	if x.List || len(x.Text) != len(h) {
		return api.Hash{}, notAt(x)
	}
	copy(h[:], x.Text)
	return h, nil
}

// notAt says that an item keeps what was read from being an account.
func notAt(x item.Placed) error {
	return fault.Place{At: x.From, Err: fault.Account}
}
