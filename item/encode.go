package item

import (
	"twigs/api"
	"twigs/fault"
)

// AppendText writes the code of a text, however long it is.
func AppendText(code []byte, text string) []byte {
	if len(text) != 1 || text[0] >= textHead {
		code = appendHead(code, textHead, len(text))
	}
	return append(code, text...)
}

// AppendList writes the code of a list whose items have these codes, one behind the other.
func AppendList(code []byte, items []byte) []byte {
	return append(appendHead(code, listHead, len(items)), items...)
}

// Encode gives an item's code.
func Encode(x api.Item) (string, error) {
	if x.List && (depths{}).tooDeep(x.Items, 1) {
		return "", fault.Deep
	}
	code, err := appendItem(nil, x)
	if err != nil {
		return "", err
	}
	return string(code), nil
}

// appendItem stops as soon as the code is too long: lists that share their memory may stand for far more bytes than there are.
func appendItem(code []byte, x api.Item) ([]byte, error) {
	if x.List {
		items, err := appendItems(x.Items)
		if err != nil {
			return nil, err
		}
		code = AppendList(code, items)
	} else if len(x.Text) > api.MaxItem {
		return nil, fault.Long
	} else {
		code = AppendText(code, x.Text)
	}
	if len(code) > api.MaxItem {
		return nil, fault.Long
	}
	return code, nil
}

// appendItems gives the codes of a list's items, one behind the other.
func appendItems(items []api.Item) ([]byte, error) {
	var code []byte
	for _, x := range items {
		longer, err := appendItem(code, x)
		if err != nil {
			return nil, err
		}
		code = longer
	}
	return code, nil
}

// row is the memory in which a list's items stand.
type row struct {
	first *api.Item
	count int
}

// depths tells of the rows that were gone through at which depth they held nothing too deep. Lists may share rows, or even stand in themselves, and to go through a row each time it is met might never end.
type depths map[row]int

// tooDeep tells whether a list of these items, that many deep in lists with itself, is too deep or has one in it that is.
func (d depths) tooDeep(items []api.Item, depth int) bool {
	if depth > api.MaxDepth {
		return true
	}
	if len(items) == 0 {
		return false
	}
	met := row{first: &items[0], count: len(items)}
	if d[met] >= depth {
		return false
	}
	for _, x := range items {
		if x.List && d.tooDeep(x.Items, depth+1) {
			return true
		}
	}
	d[met] = depth
	return false
}
