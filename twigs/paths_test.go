package twigs_test

import (
	"strings"
	"testing"

	"twigs/api"
	"twigs/twigs"
)

func TestP5CodesOfPaths(t *testing.T) {
	key := strings.Repeat("\x0a\x0b", api.KeyNibbles/2)
	for _, c := range []struct {
		path string
		leaf bool
		code string
	}{
		{"", false, "\x00"},
		{"", true, "\x20"},
		{"\x00", false, "\x10"},
		{"\x00", true, "\x30"},
		{"\x0f", true, "\x3f"},
		{"\x01\x00", false, "\x00\x10"},
		{"\x0f\x0f", true, "\x20\xff"},
		{"\x01\x02\x03", false, "\x11\x23"},
		{"\x01\x02\x03", true, "\x31\x23"},
		{key, true, "\x20" + strings.Repeat("\xab", 32)},
		{key[1:], false, "\x1b" + strings.Repeat("\xab", 31)},
		{strings.Repeat(key, 50), false, "\x00" + strings.Repeat("\xab", 1600)},
	} {
		if code, err := twigs.Pack(c.path, c.leaf); code != c.code || err != api.OK {
			t.Errorf("Pack(%x, %v) = %x, %d, want %x", c.path, c.leaf, code, err, c.code)
		}
		if path, leaf, err := twigs.Unpack(c.code); path != c.path || leaf != c.leaf || err != api.OK {
			t.Errorf("Unpack(%x) = %x, %v, %d", c.code, path, leaf, err)
		}
	}
}

func TestP5WrongPaths(t *testing.T) {
	for _, path := range []string{"\x10", "\xff", "\x01\x10", "\x10\x01", "\x01\x02\x80", strings.Repeat("\x0f", 99) + "\x10"} {
		for _, leaf := range []bool{false, true} {
			if code, err := twigs.Pack(path, leaf); code != "" || err != api.ErrNibble {
				t.Errorf("Pack(%x) = %x, %d, want %d", path, code, err, api.ErrNibble)
			}
		}
	}
	for _, code := range []string{"", "\x01", "\x0f\x00", "\x21", "\x2f\x11", "\x40", "\x50\x11", "\x80", "\xf0", "\xff"} {
		if path, leaf, err := twigs.Unpack(code); path != "" || leaf || err != api.ErrForm {
			t.Errorf("Unpack(%x) = %x, %v, %d, want %d", code, path, leaf, err, api.ErrForm)
		}
	}
}

func TestP15WhatUnpackAcceptsIsTheCodeOfWhatItGives(t *testing.T) {
	for first := range 256 {
		for _, rest := range shortTexts(edges, 2) {
			code := string([]byte{byte(first)}) + rest
			path, leaf, err := twigs.Unpack(code)
			if err != api.OK {
				continue
			}
			if again, err := twigs.Pack(path, leaf); again != code || err != api.OK {
				t.Errorf("%x is read as %x, %v, whose code is %x, %d", code, path, leaf, again, err)
			}
		}
	}
}
