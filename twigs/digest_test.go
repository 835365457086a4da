package twigs_test

import (
	"encoding/hex"
	"testing"

	"twigs/api"
	"twigs/twigs"
)

func digits(h api.Hash) string { return hex.EncodeToString(h[:]) }

func TestP3Digest(t *testing.T) {
	for _, c := range []struct{ text, want string }{
		{"", "c5d2460186f7233c927e7db2dcc703c0e500b653ca82273b7bfad8045d85a470"},
		{"\x80", "56e81f171bcc55a6ff8345e692c0f86e5b48e01b996cadc001622fb5e363b421"},
		{"abc", "4e03657aea45a94fc7d47ba826c8d667c0d1e6e33a64a036ec44f58fa12d6c45"},
	} {
		if got := digits(twigs.Digest(c.text)); got != c.want {
			t.Errorf("Digest(%q) = %s, want %s", c.text, got, c.want)
		}
	}
}

func TestP3SumAtEachEdgeOfABlock(t *testing.T) {
	for _, n := range []int{0, 1, 135, 136, 137, 271, 272, 273} {
		want := twigs.Digest(xs(n))
		h := twigs.NewHasher()
		h.Write(xs(n))
		if got := h.Sum(); got != want {
			t.Errorf("%d bytes in one piece: %x, want %x", n, got, want)
		}
		h = twigs.NewHasher()
		for range n {
			h.Write("x")
		}
		if got := h.Sum(); got != want {
			t.Errorf("%d bytes one by one: %x, want %x", n, got, want)
		}
	}
}

func TestP3HasherGoesOnBehindSum(t *testing.T) {
	h := twigs.NewHasher()
	for n := range 300 {
		want := twigs.Digest(xs(n))
		if first, second := h.Sum(), h.Sum(); first != want || second != want {
			t.Fatalf("behind %d bytes: %x, then %x, want %x", n, first, second, want)
		}
		h.Write("")
		h.Write("x")
	}
}

func TestP2HashersAreApart(t *testing.T) {
	a, b := twigs.NewHasher(), twigs.NewHasher()
	a.Write("one")
	b.Write("other")
	twigs.Digest("third")
	if a.Sum() != twigs.Digest("one") || b.Sum() != twigs.Digest("other") {
		t.Error("what was written to one hasher is seen in another")
	}
}
