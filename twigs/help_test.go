package twigs_test

import (
	"slices"
	"strings"
	"testing"
	"time"

	"twigs/api"
)

func text(s string) api.Item { return api.Item{Text: s} }

func list(items ...api.Item) api.Item { return api.Item{List: true, Items: items} }

// nested puts an item into that many lists, one in the other.
func nested(x api.Item, lists int) api.Item {
	for range lists {
		x = list(x)
	}
	return x
}

// xs is a text of n bytes that are each a text without a head.
func xs(n int) string { return strings.Repeat("x", n) }

func sameItem(a, b api.Item) bool {
	return a.List == b.List && a.Text == b.Text && slices.EqualFunc(a.Items, b.Items, sameItem)
}

// zeroItem tells whether there is nothing in an item, as there must be beside an error.
func zeroItem(x api.Item) bool { return !x.List && x.Text == "" && x.Items == nil }

// inTime fails the test if a call does not end: a mistake here would otherwise hold up all tests.
func inTime(t *testing.T, call func()) {
	t.Helper()
	done := make(chan struct{})
	go func() {
		defer close(done)
		call()
	}()
	select {
	case <-done:
	case <-time.After(20 * time.Second):
		t.Fatal("the call does not end")
	}
}

// shortTexts gives all texts of these letters with at most that many bytes.
func shortTexts(letters string, most int) []string {
	all := []string{""}
	for from := 0; len(all[from]) < most; from++ {
		for i := range len(letters) {
			all = append(all, all[from]+letters[i:i+1])
		}
	}
	return all
}

// edges are the bytes at which a head's meaning changes.
const edges = "\x00\x01\x7f\x80\x81\x82\xb7\xb8\xb9\xbf\xc0\xc1\xc2\xf7\xf8\xff"
