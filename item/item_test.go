package item

import (
	"errors"
	"strings"
	"testing"

	"twigs/api"
	"twigs/fault"
)

func TestNumbersHighestFirst(t *testing.T) {
	for _, c := range []struct {
		n    uint64
		want string
	}{
		{0, ""},
		{1, "\x01"},
		{255, "\xff"},
		{256, "\x01\x00"},
		{0x10000, "\x01\x00\x00"},
		{1<<56 - 1, "\xff\xff\xff\xff\xff\xff\xff"},
		{1 << 56, "\x01\x00\x00\x00\x00\x00\x00\x00"},
		{1<<64 - 1, "\xff\xff\xff\xff\xff\xff\xff\xff"},
	} {
		if got := HighestFirst(c.n); got != c.want {
			t.Errorf("HighestFirst(%d) = %x, want %x", c.n, got, c.want)
		}
		if got := Number(c.want); got != c.n {
			t.Errorf("Number(%x) = %d, want %d", c.want, got, c.n)
		}
	}
}

func TestHeadsAroundEachLength(t *testing.T) {
	for _, c := range []struct {
		n    int
		want string
	}{
		{0, "\x00"}, {55, "\x37"}, {56, "\x38\x38"}, {255, "\x38\xff"}, {256, "\x39\x01\x00"}, {65535, "\x39\xff\xff"}, {65536, "\x3a\x01\x00\x00"},
	} {
		for _, kind := range []byte{textHead, listHead} {
			want := string([]byte{kind + c.want[0]}) + c.want[1:]
			if got := string(appendHead(nil, kind, c.n)); got != want {
				t.Errorf("head for %d of %d bytes: %x, want %x", kind, c.n, got, want)
			}
			h, err := readHead(want + strings.Repeat("\xaa", c.n))
			if err != nil || h != (head{list: kind == listHead, size: len(want), length: c.n}) {
				t.Errorf("head %x is read as %+v, %v", want, h, err)
			}
		}
	}
}

func TestHeadErrorsHaveNoPlaceOfTheirOwn(t *testing.T) {
	for _, rest := range []string{"", "\x81", "\x81\x05", "\xb8\x01", "\xf8"} {
		_, err := readHead(rest)
		var place fault.Place
		if err == nil || errors.As(err, &place) {
			t.Errorf("head %x: %v, want an error without a place", rest, err)
		}
	}
}

func TestPlacesOfItems(t *testing.T) {
	x, err := Decode("\xc9\x05\x83cat\xc2\x80\x80\xc0")
	if err != nil {
		t.Fatal(err)
	}
	want := [][2]int{{1, 2}, {2, 6}, {6, 9}, {9, 10}}
	if x.From != 0 || x.To != 10 || len(x.Items) != len(want) {
		t.Fatalf("read as %+v", x)
	}
	for i, y := range x.Items {
		if [2]int{y.From, y.To} != want[i] {
			t.Errorf("item %d stands from %d to %d, want %v", i, y.From, y.To, want[i])
		}
	}
	if inner := x.Items[2].Items; inner[1].From != 8 || inner[1].To != 9 {
		t.Errorf("the last inner item stands from %d to %d", inner[1].From, inner[1].To)
	}
}

func TestRowFineAtOneDepthMayBeTooDeepAtAnother(t *testing.T) {
	shared := []api.Item{{List: true}}
	flat := api.Item{List: true, Items: shared}
	deeper := flat
	for range api.MaxDepth - 3 {
		deeper = api.Item{List: true, Items: []api.Item{deeper}}
	}
	tooDeep := api.Item{List: true, Items: []api.Item{deeper}}
	for _, c := range []struct {
		first, second api.Item
		want          error
	}{
		{flat, deeper, nil}, {deeper, flat, nil}, {flat, tooDeep, fault.Deep}, {tooDeep, flat, fault.Deep},
	} {
		x := api.Item{List: true, Items: []api.Item{c.first, c.second}}
		if _, err := Encode(x); err != c.want {
			t.Errorf("Encode(%v): %v, want %v", x, err, c.want)
		}
	}
}
