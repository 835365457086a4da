package digest

import "twigs/api"

// Hasher takes a text piece by piece. The zero Hasher has taken none.
type Hasher struct {
	sponge
	waiting [blockSize]byte
	count   int // of the bytes that wait; always below blockSize
}

// Write takes a piece more.
func (h *Hasher) Write(piece string) {
	for piece != "" {
		n := copy(h.waiting[h.count:], piece)
		piece = piece[n:]
		h.count += n
		if h.count == blockSize {
			h.absorb(h.waiting)
			h.count = 0
		}
	}
}

// Sum gives the digest of all pieces so far. It ends a copy of the hasher, so that more may be written to h.
func (h *Hasher) Sum() api.Hash {
	ended := *h
	ended.waiting[ended.count] = 1
	clear(ended.waiting[ended.count+1:])
	ended.waiting[blockSize-1] += 128
	ended.absorb(ended.waiting)
	return ended.squeeze()
}

// Of gives the digest of a whole text.
func Of(text string) api.Hash {
	var h Hasher
	h.Write(text)
	return h.Sum()
}
