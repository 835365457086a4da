package twigs_test

import (
	"strings"
	"testing"

	"twigs/api"
	"twigs/twigs"
)

func TestP4CodesOfItems(t *testing.T) {
	for _, c := range []struct {
		x    api.Item
		code string
	}{
		{text(""), "\x80"},
		{text("\x00"), "\x00"},
		{text("\x7f"), "\x7f"},
		{text("\x80"), "\x81\x80"},
		{text("cat"), "\x83cat"},
		{text(xs(55)), "\xb7" + xs(55)},
		{text(xs(56)), "\xb8\x38" + xs(56)},
		{text(xs(255)), "\xb8\xff" + xs(255)},
		{text(xs(256)), "\xb9\x01\x00" + xs(256)},
		{text(xs(api.MaxItem - 3)), "\xb9\x07\xfd" + xs(api.MaxItem-3)},
		{list(), "\xc0"},
		{list(list(), text(""), text("\x05")), "\xc3\xc0\x80\x05"},
		{list(text(xs(54))), "\xf7\xb6" + xs(54)},
		{list(text(xs(55))), "\xf8\x38\xb7" + xs(55)},
		{list(text(xs(253)), text("\x01")), "\xf9\x01\x00\xb8\xfd" + xs(253) + "\x01"},
		{nested(list(), api.MaxDepth-1), "\xc5\xc4\xc3\xc2\xc1\xc0"},
		{nested(text("\x05"), api.MaxDepth), "\xc6\xc5\xc4\xc3\xc2\xc1\x05"},
		{list(text(xs(api.MaxItem - 6))), "\xf9\x07\xfd\xb9\x07\xfa" + xs(api.MaxItem-6)},
	} {
		if code, err := twigs.Encode(c.x); code != c.code || err != api.OK {
			t.Errorf("Encode(%.60v) = %.60x, %d, want %.60x", c.x, code, err, c.code)
		}
		if x, f := twigs.Decode(c.code); !sameItem(x, c.x) || f != (api.Fault{}) {
			t.Errorf("Decode(%.60x) = %.60v, %+v, want %.60v", c.code, x, f, c.x)
		}
	}
}

func TestP4WhatDoesNotCount(t *testing.T) {
	x := api.Item{Text: "cat", Items: []api.Item{nested(list(), 9), text(xs(5000))}}
	if code, err := twigs.Encode(x); code != "\x83cat" || err != api.OK {
		t.Errorf("a text with Items: %x, %d", code, err)
	}
	x = api.Item{List: true, Text: xs(5000), Items: []api.Item{text("cat")}}
	if code, err := twigs.Encode(x); code != "\xc4\x83cat" || err != api.OK {
		t.Errorf("a list with a Text: %x, %d", code, err)
	}
}

func TestP4EncodeErrors(t *testing.T) {
	for _, c := range []struct {
		name string
		x    api.Item
		want api.Errno
	}{
		{"one list too deep", nested(list(), api.MaxDepth), api.ErrDeep},
		{"far too deep", nested(text(""), 5000), api.ErrDeep},
		{"too deep at the end", list(text(""), list(), nested(list(), api.MaxDepth-1)), api.ErrDeep},
		{"too deep behind what is too long", list(text(xs(5000)), nested(list(), 7)), api.ErrDeep},
		{"a text one byte too long", text(xs(api.MaxItem - 2)), api.ErrLong},
		{"a long text", text(xs(1 << 20)), api.ErrLong},
		{"a list one byte too long", list(text(xs(api.MaxItem - 5))), api.ErrLong},
		{"too many items", api.Item{List: true, Items: make([]api.Item, api.MaxItem-2)}, api.ErrLong},
		{"far too many items", api.Item{List: true, Items: make([]api.Item, 1<<20)}, api.ErrLong},
		{"too long in the sixth list", nested(text(xs(5000)), api.MaxDepth), api.ErrLong},
	} {
		if code, err := twigs.Encode(c.x); code != "" || err != c.want {
			t.Errorf("%s: %.60x, %d, want %d", c.name, code, err, c.want)
		}
	}
	most := api.Item{List: true, Items: make([]api.Item, api.MaxItem-3)}
	if code, err := twigs.Encode(most); len(code) != api.MaxItem || err != api.OK {
		t.Errorf("as many items as may be: %d bytes, %d", len(code), err)
	}
}

func TestP4DecodeFaults(t *testing.T) {
	for _, c := range []struct {
		code string
		err  api.Errno
		at   int
	}{
		{xs(api.MaxItem + 1), api.ErrLong, 0},
		{"\xb9\x07\xfe" + xs(api.MaxItem-2), api.ErrLong, 0},
		{"\x05" + xs(api.MaxItem-1), api.ErrRest, 1},
		{"", api.ErrShort, 0},
		{"\x81", api.ErrShort, 0},
		{"\x83ca", api.ErrShort, 0},
		{"\xb7" + xs(54), api.ErrShort, 0},
		{"\xb8\x38" + xs(55), api.ErrShort, 0},
		{"\xb8", api.ErrShort, 0},
		{"\xbf" + xs(7), api.ErrShort, 0},
		{"\xff\xff\xff\xff\xff\xff\xff\xff\xff", api.ErrShort, 0},
		{"\xff\x80\x00\x00\x00\x00\x00\x00\x00", api.ErrShort, 0},
		{"\x81\x00", api.ErrForm, 0},
		{"\x81\x7f", api.ErrForm, 0},
		{"\xb8\x00", api.ErrForm, 0},
		{"\xb8\x01A", api.ErrForm, 0},
		{"\xb8\x37" + xs(55), api.ErrForm, 0},
		{"\xb9\x00\x38" + xs(56), api.ErrForm, 0},
		{"\xf8\x37" + xs(55), api.ErrForm, 0},
		{"\xf9\x00\x38" + xs(56), api.ErrForm, 0},
		{"\xb9\x00", api.ErrShort, 0},
		{"\xb8\x37", api.ErrForm, 0},
		{"\xb9\x00\xff", api.ErrForm, 0},
		{"\xc1", api.ErrShort, 0},
		{"\xc2\x80", api.ErrShort, 0},
		{"\xc1\x81", api.ErrShort, 1},
		{"\xc1\x81\x80", api.ErrShort, 1},
		{"\xc1\xb8\x38" + xs(56), api.ErrShort, 1},
		{"\xc3\x05\x81\x05", api.ErrForm, 2},
		{"\xc4\xc1\x81\x81\x05", api.ErrShort, 2},
		{"\xf8\x38" + xs(55) + "\x81", api.ErrShort, 57},
		{"\xc6\xc5\xc4\xc3\xc2\xc1\xc0", api.ErrDeep, 6},
		{"\xc6\xc5\xc4\xc3\xc2\xc1\xc1", api.ErrShort, 6},
		{"\xc8\xc7\xc6\xc5\xc4\xc3\xc2\x81\x05", api.ErrDeep, 6},
		{"\xc7\xc6\xc5\xc4\xc3\xc2\xc1\x81", api.ErrDeep, 6},
		{"\xc6\x05\xc4\xc3\xc2\xc1\xc0", api.OK, 0},
		{"\xc7\x05\xc5\xc4\xc3\xc2\xc1\xc0", api.ErrDeep, 7},
		{"\xc8\xc6\xc5\xc4\xc3\xc2\xc1\xc0\x81", api.ErrDeep, 6},
		{"\x80\x80", api.ErrRest, 1},
		{"\x83catx", api.ErrRest, 4},
		{"\xc1\x05\x81", api.ErrRest, 2},
		{"\x05\x81\x05", api.ErrRest, 1},
		{"\xc3\x81\x05\x05x", api.ErrForm, 1},
	} {
		x, f := twigs.Decode(c.code)
		if f != (api.Fault{Err: c.err, At: c.at}) {
			t.Errorf("Decode(%.40x): %+v, want %d at %d", c.code, f, c.err, c.at)
		}
		if c.err != api.OK && !zeroItem(x) {
			t.Errorf("Decode(%.40x) gives %.60v beside its fault", c.code, x)
		}
	}
}

func TestP4DecodedListsWithoutEntriesAreNil(t *testing.T) {
	x, f := twigs.Decode("\xc2\xc0\x05")
	if f != (api.Fault{}) || x.Text != "" || x.Items[0].Items != nil || x.Items[1].Items != nil || x.Items[0].Text != "" {
		t.Errorf("%+v, %+v", x, f)
	}
}

func TestP15WhatDecodeAcceptsIsTheCodeOfWhatItGives(t *testing.T) {
	accepted := 0
	for _, code := range shortTexts(edges, 4) {
		x, f := twigs.Decode(code)
		if f.Err != api.OK {
			continue
		}
		accepted++
		if again, err := twigs.Encode(x); again != code || err != api.OK {
			t.Errorf("%x is read as %v, whose code is %x, %d", code, x, again, err)
		}
	}
	if accepted == 0 {
		t.Error("nothing is accepted")
	}
	for n := range api.MaxItem {
		for _, head := range []string{"\xb8", "\xb9\x00", "\xb9\x01", "\xf8", "\xf9\x01"} {
			code := head + string([]byte{byte(n)}) + strings.Repeat("\x80", n)
			if x, f := twigs.Decode(code); f.Err == api.OK {
				if again, _ := twigs.Encode(x); again != code {
					t.Errorf("%.20x with %d bytes is read, but is not the code of what was read", code, n)
				}
			}
		}
	}
}

func TestP4EachItemHasItsOwnCode(t *testing.T) {
	items := []api.Item{text(""), text("\x00"), text("\x7f"), text("\x80"), text("\xc0"), text("ab"), list()}
	for _, x := range items[:7] {
		items = append(items, list(x))
		for _, y := range items[:7] {
			items = append(items, list(x, y), list(list(x), y), list(x, list(y)), list(list(x, y)))
		}
	}
	owner := map[string]api.Item{}
	for _, x := range items {
		code, err := twigs.Encode(x)
		if err != api.OK {
			t.Fatalf("Encode(%v): %d", x, err)
		}
		if y, ok := owner[code]; ok && !sameItem(x, y) {
			t.Errorf("%x is the code of %v and of %v", code, x, y)
		}
		owner[code] = x
		if y, f := twigs.Decode(code); f != (api.Fault{}) || !sameItem(x, y) {
			t.Errorf("%v comes back as %v, %+v", x, y, f)
		}
	}
}

func TestP1ListsThatHoldThemselves(t *testing.T) {
	alone := list(text("\x05"))
	alone.Items[0] = alone
	many := list(make([]api.Item, 200)...)
	for i := range many.Items {
		many.Items[i] = many
	}
	behindText := list(text(xs(5000)), text(""))
	behindText.Items[1] = behindText
	for _, x := range []api.Item{alone, many, behindText} {
		inTime(t, func() {
			if code, err := twigs.Encode(x); code != "" || err != api.ErrDeep {
				t.Errorf("a list that holds itself: %x, %d", code, err)
			}
		})
	}
}

func TestP1ListsThatShareTheirItems(t *testing.T) {
	for _, c := range []struct {
		inner api.Item
		want  api.Errno
	}{{text(""), api.ErrLong}, {list(), api.ErrDeep}} {
		x := c.inner
		for range api.MaxDepth {
			items := make([]api.Item, 300)
			for i := range items {
				items[i] = x
			}
			items[0] = text("")
			x = list(items...)
		}
		inTime(t, func() {
			if code, err := twigs.Encode(x); code != "" || err != c.want {
				t.Errorf("lists of lists that share items: %.60x, %d, want %d", code, err, c.want)
			}
		})
	}
}

func TestP2EncodeLeavesItsItemAlone(t *testing.T) {
	room := []api.Item{text("a"), list(text("b")), text("spare"), list()}
	x := api.Item{List: true, Items: room[:2]}
	first, _ := twigs.Encode(x)
	want := []api.Item{text("a"), list(text("b")), text("spare"), list()}
	for i := range room {
		if !sameItem(room[i], want[i]) {
			t.Errorf("entry %d became %v", i, room[i])
		}
	}
	room[0] = text("c")
	if second, _ := twigs.Encode(x); first != "\xc3a\xc1b" || second != "\xc3c\xc1b" {
		t.Errorf("%x, then %x", first, second)
	}
}

// rooms gives the lists of an item, each with its spare room.
func rooms(x api.Item) [][]api.Item {
	all := [][]api.Item{x.Items[:cap(x.Items)]}
	for _, y := range x.Items {
		all = append(all, rooms(y)...)
	}
	return all
}

func TestP2DecodeGivesNewMemory(t *testing.T) {
	code := "\xcc\xc3\x01\x02\x03\xc3\xc2\x04\x05\xc0\xc1\x06\x07"
	x, _ := twigs.Decode(code)
	again, _ := twigs.Decode(code)
	owner := map[*api.Item]int{}
	for n, room := range append(rooms(x), rooms(again)...) {
		for i := range room {
			if before, ok := owner[&room[i]]; ok {
				t.Errorf("lists %d and %d share memory", before, n)
			}
			owner[&room[i]] = n
		}
	}
	for _, room := range rooms(x) {
		for i := range room {
			room[i] = text("overwritten")
		}
	}
	if c, err := twigs.Encode(again); c != code || err != api.OK {
		t.Errorf("writing into one answer changed another: %x", c)
	}
	if third, f := twigs.Decode(code); f != (api.Fault{}) || !sameItem(third, again) {
		t.Errorf("writing into an answer changed a later one: %v", third)
	}
}
