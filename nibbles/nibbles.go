// Package nibbles has the code of paths, which are rows of nibbles.
package nibbles

import (
	"twigs/api"
	"twigs/fault"
)

const (
	highest  = 15
	oddFlag  = 1
	leafFlag = 2
)

// OfKey gives the path of a key.
func OfKey(key api.Key) string {
	return string(appendNibbles(nil, string(key[:])))
}

// appendNibbles writes the nibbles of each byte, the higher first.
func appendNibbles(path []byte, packed string) []byte {
	for i := range len(packed) {
		path = append(path, packed[i]>>4, packed[i]&highest)
	}
	return path
}

// Common tells with how many nibbles both paths begin.
func Common(a, b string) int {
	n := 0
	for n < len(a) && n < len(b) && a[n] == b[n] {
		n++
	}
	return n
}

// Pack gives the code of a path, as that of a leaf or not.
func Pack(path string, leaf bool) (string, error) {
	for i := range len(path) {
		if path[i] > highest {
			return "", fault.Nibble
		}
	}
	return Code(path, leaf), nil
}

// Code is Pack for a path that is known to have no byte above 15.
func Code(path string, leaf bool) string {
	first := byte(0)
	if leaf {
		first = leafFlag << 4
	}
	if len(path)%2 == 1 {
		first += oddFlag<<4 + path[0]
		path = path[1:]
	}
	return string(AppendPairs([]byte{first}, path))
}

// AppendPairs writes two nibbles a byte, the higher first. Where they are odd, the last one's lower four bits are 0.
func AppendPairs(packed []byte, path string) []byte {
	for i := 0; i < len(path); i += 2 {
		pair := path[i] << 4
		if i+1 < len(path) {
			pair |= path[i+1]
		}
		packed = append(packed, pair)
	}
	return packed
}

// PairBytes tells how many bytes AppendPairs writes for that many nibbles.
func PairBytes(count int) int { return (count + 1) / 2 }

// Unpair reads the path of that many nibbles that AppendPairs writes so.
func Unpair(packed string, count int) (string, error) {
	if len(packed) != PairBytes(count) {
		return "", fault.Form
	}
	path := appendNibbles(nil, packed)
	if len(path) > count && path[count] != 0 {
		return "", fault.Form
	}
	return string(path[:count]), nil
}

// Unpack gives the path that has a code, and whether it is a leaf's.
func Unpack(code string) (string, bool, error) {
	if code == "" {
		return "", false, fault.Form
	}
	flag, nibble := code[0]>>4, code[0]&highest
	if flag > leafFlag+oddFlag {
		return "", false, fault.Form
	}
	var path []byte
	if flag&oddFlag != 0 {
		path = append(path, nibble)
	} else if nibble != 0 {
		return "", false, fault.Form
	}
	path = appendNibbles(path, code[1:])
	return string(path), flag&leafFlag != 0, nil
}
