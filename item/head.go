// Package item has the code of items: texts, and lists of items.
package item

import "twigs/fault"

const (
	textHead   = 128 // and each byte below it is a text without a head
	listHead   = 192
	shortBytes = 55 // the greatest length that the head's first byte holds itself
)

// appendHead writes the head of n bytes that come.
func appendHead(code []byte, kind byte, n int) []byte {
	if n <= shortBytes {
		return append(code, kind+byte(n))
	}
	length := HighestFirst(uint64(n))
	code = append(code, kind+shortBytes+byte(len(length)))
	return append(code, length...)
}

// HighestFirst writes a number in as few bytes as hold it; 0 in none.
func HighestFirst(n uint64) string {
	var digits []byte
	for shift := 56; shift >= 0; shift -= 8 {
		if n>>shift != 0 {
			digits = append(digits, byte(n>>shift))
		}
	}
	return string(digits)
}

// Number reads what HighestFirst writes. More than eight bytes are not for it.
func Number(digits string) uint64 {
	var n uint64
	for i := range len(digits) {
		n = n<<8 | uint64(digits[i])
	}
	return n
}

// head says how an item goes on.
type head struct {
	list   bool
	size   int // of the head itself
	length int // of what comes behind it
}

// readHead reads the head of the item with which rest begins; what comes behind the head is there then.
func readHead(rest string) (head, error) {
	if rest == "" {
		return head{}, fault.Short
	}
	first := rest[0]
	if first < textHead {
		return head{length: 1}, nil
	}
	if first < listHead {
		return readText(rest)
	}
	size, length, err := readLength(rest, listHead)
	return head{list: true, size: size, length: length}, err
}

// readText reads the head of a text that has one, and sees whether the text needs it.
func readText(rest string) (head, error) {
	size, length, err := readLength(rest, textHead)
	if err != nil {
		return head{}, err
	}
	if length == 1 && rest[size] < textHead {
		return head{}, fault.Form
	}
	return head{size: size, length: length}, nil
}

// readLength tells how many bytes a head has, and how many come behind it.
func readLength(rest string, kind byte) (int, int, error) {
	size, length := 1, uint64(rest[0]-kind)
	if length > shortBytes {
		size += int(length - shortBytes)
		if len(rest) < size {
			return 0, 0, fault.Short
		}
		length = Number(rest[1:size])
		if rest[1] == 0 || length <= shortBytes {
			return 0, 0, fault.Form
		}
	}
	if length > uint64(len(rest)-size) {
		return 0, 0, fault.Short
	}
	return size, int(length), nil
}
