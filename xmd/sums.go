package xmd

import "pharos/sha"

const (
	sumSize   = 32  // bytes of a sum
	blockSize = 64  // bytes that SHA-256 takes in at once
	maxSums   = 255 // the number of a sum is one byte
	maxTag    = 255 // so is the length of dst
)

// tagOf answers dst and its length behind it.
func tagOf(dst []byte) []byte {
	// The room ends where dst does, so that the length goes into new memory, not into the caller's.
	return append(dst[:len(dst):len(dst)], byte(len(dst)))
}

// stretch answers the first n bytes of the sums that hang on the first one.
func stretch(first [sumSize]byte, tag []byte, n int) []byte {
	count := (n + sumSize - 1) / sumSize
	out := make([]byte, 0, count*sumSize)
	var ahead [sumSize]byte // noughts, ahead of b1: it hangs on b0 as it is
	for i := range count {
		mixed := unlike(first, ahead)
		ahead = sum(mixed[:], []byte{byte(i + 1)}, tag)
		out = append(out, ahead[:]...)
	}
	return out[:n:n]
}

// unlike answers the bits in which a and b aren't alike.
func unlike(a, b [sumSize]byte) [sumSize]byte {
	for i := range a {
		a[i] ^= b[i]
	}
	return a
}

// sum answers the sum of the pieces behind one another.
func sum(pieces ...[]byte) [sumSize]byte {
	var h sha.Hash
	for _, piece := range pieces {
		h.Write(piece)
	}
	return h.Sum()
}
