// Package sha is SHA-256 (FIPS 180-4): see doc/01-sha.md.
package sha

import "iter"

// Sum answers SHA-256 of b.
func Sum(b []byte) [32]byte {
	return digest(mix(start(), blocks(b)))
}

// Pair answers the sum of a and b behind one another.
func Pair(a, b [32]byte) [32]byte {
	var both [64]byte
	copy(both[:32], a[:])
	copy(both[32:], b[:])
	return Sum(both[:])
}

// Hash sums a text that is written in pieces. A zero Hash is ready.
type Hash struct {
	state  [8]uint32       // behind the last full block; of no meaning before the first one
	rest   [blockSize]byte // what was written since, noughts behind it
	length uint64          // bytes written in all
}

// Write takes b as the text's next piece.
func (h *Hash) Write(b []byte) {
	for len(b) > 0 {
		state := h.reached()
		n := copy(h.rest[h.length%blockSize:], b)
		h.length += uint64(n)
		b = b[n:]
		if h.length%blockSize == 0 {
			h.state = compress(state, h.rest)
			h.rest = [blockSize]byte{}
		}
	}
}

// Sum answers the sum of all that was written. It leaves h as it was, so that more may be written.
func (h *Hash) Sum() [32]byte {
	return digest(mix(h.reached(), ending(h.rest[:h.length%blockSize], h.length)))
}

// reached answers the state that the next block goes on from. A zero Hash must be ready, so its
// state isn't FIPS's first one: that one stands in until a block is full.
func (h *Hash) reached() [8]uint32 {
	if h.length < blockSize {
		return start()
	}
	return h.state
}

// mix takes block upon block into the state.
func mix(state [8]uint32, all iter.Seq[[blockSize]byte]) [8]uint32 {
	for block := range all {
		state = compress(state, block)
	}
	return state
}

// digest answers the state as bytes, each word's highest first.
func digest(state [8]uint32) [32]byte {
	var out [32]byte
	for i, word := range state {
		out[4*i] = byte(word >> 24)
		out[4*i+1] = byte(word >> 16)
		out[4*i+2] = byte(word >> 8)
		out[4*i+3] = byte(word)
	}
	return out
}
