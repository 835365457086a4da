package digest

import (
	"encoding/hex"
	"testing"

	"twigs/api"
)

// sample is a text of n bytes, another one for each n.
func sample(n int) string {
	text := make([]byte, n)
	for i := range text {
		text[i] = byte(7*i + n)
	}
	return string(text)
}

// digits writes a digest as the tables here do.
func digits(h api.Hash) string { return hex.EncodeToString(h[:]) }

// known has digests of samples, by another program than this one.
var known = []struct {
	size int
	want string
}{
	{0, "c5d2460186f7233c927e7db2dcc703c0e500b653ca82273b7bfad8045d85a470"},
	{1, "5fe7f977e71dba2ea1a68e21057beebb9be2ac30c6410aa38d4f3fbe41dcffd2"},
	{32, "75ddc22689ac5cfab91ff4f11af7f47658c89f63dcb005c00824017d8081c7e8"},
	{64, "d432c602ee561dfffe10aa1a7df28751b7990fcb5ba7a66055452fd680beb44c"},
	{134, "8884d266ac61dea6a59234e679bb56fd1bf116a05634f2e8de1b7224302bc122"},
	{135, "8ab570337c9a3a773c3605160ca58e3f0546d92d217c908669cc4f35a31933bc"},
	{136, "16b30a6be318a7acbcba7a2194789f628abf68dfbbf55a4d840f22f6a4d29efd"},
	{137, "6a7e8293441d51be41bf4994995b35981f90c07866c7fd0465f405e2b7a8f8dd"},
	{138, "30f0d8366a3b76471b5276b364f6f74cd5718e98625c6cdbdde882eb0bbbe3b8"},
	{271, "bb02bca6be57f42d131406260c6f1a81fd9922af8bd1c96d78f454b19ae10add"},
	{272, "443464c0c3ac8036d14a6f8647fc93b592d514adefbe88683cbbda3b4b2c4553"},
	{273, "73d5960773e36742ead7c872d84d535f35e75b9517ccb1023491276013f88890"},
	{408, "199ffed10ac2e6d847e422e9f64113fd5384a21320d7c6be84f82defd3863007"},
	{1000, "5cab097db1a529f5b1a15428cc494df950671bc3824340aad89941fa68e151bc"},
	{5000, "758101c2e625f2322220c81eb13f29fab93256a056171eaabad18727cc221bdb"},
}

func TestKnownDigests(t *testing.T) {
	for _, c := range known {
		if got := digits(Of(sample(c.size))); got != c.want {
			t.Errorf("digest of %d bytes: %s, want %s", c.size, got, c.want)
		}
	}
}

func TestTurnsFollowTheRule(t *testing.T) {
	var want [5][5]int
	x, y := 1, 0
	for n := range 24 {
		want[x][y] = (n + 1) * (n + 2) / 2 % 64
		x, y = y, (2*x+3*y)%5
	}
	if turns != want {
		t.Errorf("turns are %v, want %v", turns, want)
	}
}

func TestRoundKeysFollowTheRule(t *testing.T) {
	bit := func(doublings int) uint64 {
		n := 1
		for range doublings {
			n *= 2
			if n > 255 {
				n ^= 369
			}
		}
		return uint64(n & 1)
	}
	for r, got := range roundKeys {
		var want uint64
		for j := range 7 {
			want |= bit(7*r+j) << (1<<j - 1)
		}
		if got != want {
			t.Errorf("the key of round %d is %x, want %x", r, got, want)
		}
	}
}

func TestPiecesOfEverySize(t *testing.T) {
	text := sample(300)
	want := Of(text)
	for size := 1; size <= len(text); size++ {
		var h Hasher
		for from := 0; from < len(text); from += size {
			h.Write(text[from:min(from+size, len(text))])
			h.Write("")
		}
		if h.Sum() != want {
			t.Errorf("in pieces of %d bytes the digest is another", size)
		}
	}
}

func TestCopiedHasherGoesItsOwnWay(t *testing.T) {
	var h Hasher
	h.Write("ab")
	other := h
	other.Write("x")
	h.Write("c")
	if h.Sum() != Of("abc") || other.Sum() != Of("abx") {
		t.Error("a copy and its origin share what was written")
	}
}
