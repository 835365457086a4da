// Package digest works out the digest of a text.
package digest

import (
	"math/bits"

	"twigs/api"
)

// blockSize is how many bytes the sponge takes at a time.
const blockSize = 136

// turns tells, by x and then y, how far a lane is turned left in each round.
var turns = [5][5]int{
	{0, 36, 3, 41, 18},
	{1, 44, 10, 45, 2},
	{62, 6, 43, 15, 61},
	{28, 55, 25, 21, 56},
	{27, 20, 39, 8, 14},
}

// roundKeys has the number that each round joins to the first lane.
var roundKeys = [24]uint64{
	0x0000000000000001, 0x0000000000008082, 0x800000000000808a, 0x8000000080008000,
	0x000000000000808b, 0x0000000080000001, 0x8000000080008081, 0x8000000000008009,
	0x000000000000008a, 0x0000000000000088, 0x0000000080008009, 0x000000008000000a,
	0x000000008000808b, 0x800000000000008b, 0x8000000000008089, 0x8000000000008003,
	0x8000000000008002, 0x8000000000000080, 0x000000000000800a, 0x800000008000000a,
	0x8000000080008081, 0x8000000000008080, 0x0000000080000001, 0x8000000080008008,
}

// sponge takes whole blocks; it knows nothing of how a text is cut into them.
type sponge struct {
	lanes [5][5]uint64 // by x, then y
}

// absorb takes one block more.
func (s *sponge) absorb(block [blockSize]byte) {
	for i := range blockSize / 8 {
		s.lanes[i%5][i/5] ^= lowestFirst(block, 8*i)
	}
	for r := range 24 {
		s.joinColumns()
		s.turnAndMove()
		s.joinRows()
		s.lanes[0][0] ^= roundKeys[r]
	}
}

// squeeze gives the digest of the blocks so far.
func (s *sponge) squeeze() api.Hash {
	var h api.Hash
	for i := range h {
		h[i] = byte(s.lanes[i/8][0] >> (i % 8 * 8))
	}
	return h
}

// joinColumns is a round's first step.
func (s *sponge) joinColumns() {
	var columns [5]uint64
	for x := range 5 {
		for y := range 5 {
			columns[x] ^= s.lanes[x][y]
		}
	}
	for x := range 5 {
		joined := columns[(x+4)%5] ^ bits.RotateLeft64(columns[(x+1)%5], 1)
		for y := range 5 {
			s.lanes[x][y] ^= joined
		}
	}
}

// turnAndMove is a round's second step.
func (s *sponge) turnAndMove() {
	old := s.lanes
	for x := range 5 {
		for y := range 5 {
			s.lanes[y][(2*x+3*y)%5] = bits.RotateLeft64(old[x][y], turns[x][y])
		}
	}
}

// joinRows is a round's third step.
func (s *sponge) joinRows() {
	old := s.lanes
	for x := range 5 {
		for y := range 5 {
			s.lanes[x][y] = old[x][y] ^ (old[(x+2)%5][y] &^ old[(x+1)%5][y])
		}
	}
}

// lowestFirst reads the eight bytes from a place on as a number.
func lowestFirst(block [blockSize]byte, from int) uint64 {
	var n uint64
	for i := range 8 {
		n |= uint64(block[from+i]) << (8 * i)
	}
	return n
}
