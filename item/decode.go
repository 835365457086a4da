package item

import (
	"strings"

	"twigs/api"
	"twigs/fault"
)

// Placed is an item that was read, and where its code stands in what was read.
type Placed struct {
	From, To int
	List     bool
	Text     string
	Items    []Placed
}

// Decode reads the item whose code is given.
func Decode(code string) (Placed, error) {
	if len(code) > api.MaxItem {
		return Placed{}, fault.Long
	}
	x, err := readItem(code, 0, 0)
	if err != nil {
		return Placed{}, err
	}
	if x.To < len(code) {
		return Placed{}, fault.Place{At: x.To, Err: fault.Rest}
	}
	return x, nil
}

// readItem reads the item that begins at from and stands in that many lists. Its room ends where the code does.
func readItem(code string, from, lists int) (Placed, error) {
	h, err := readHead(code[from:])
	if err != nil {
		return Placed{}, fault.Place{At: from, Err: err}
	}
	behind := from + h.size
	x := Placed{From: from, To: behind + h.length, List: h.list}
	if !h.list {
		x.Text = code[behind:x.To]
		return x, nil
	}
	if lists == api.MaxDepth {
		return Placed{}, fault.Place{At: from, Err: fault.Deep}
	}
	x.Items, err = readItems(code[:x.To], behind, lists+1)
	if err != nil {
		return Placed{}, err
	}
	return x, nil
}

func readItems(code string, from, lists int) ([]Placed, error) {
	var all []Placed
	for from < len(code) {
		x, err := readItem(code, from, lists)
		if err != nil {
			return nil, err
		}
		all = append(all, x)
		from = x.To
	}
	return all, nil
}

// Bare gives the item without its places. Its texts are copies, so that they don't keep the code they were read from.
func (x Placed) Bare() api.Item {
	bare := api.Item{List: x.List, Text: strings.Clone(x.Text)}
	for _, y := range x.Items {
		bare.Items = append(bare.Items, y.Bare())
	}
	return bare
}
