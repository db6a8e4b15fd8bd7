package sha

import (
	"iter"
	"slices"
)

const (
	blockSize = 64
	lengthAt  = 56   // where the last block tells the text's bits
	endMark   = 0x80 // the byte behind a text
)

// Blocks answers b as it is hashed, block upon block.
func Blocks(b []byte) iter.Seq[[64]byte] {
	// What is answered outlives the call, so it must not hang on the caller's list.
	return blocks(slices.Clone(b))
}

// blocks is Blocks on a list that nobody changes while it is gone through.
func blocks(b []byte) iter.Seq[[blockSize]byte] {
	return func(yield func([blockSize]byte) bool) {
		rest := b
		for len(rest) >= blockSize {
			var block [blockSize]byte
			copy(block[:], rest)
			if !yield(block) {
				return
			}
			rest = rest[blockSize:]
		}
		for block := range ending(rest, uint64(len(b))) {
			if !yield(block) {
				return
			}
		}
	}
}

// ending answers the last blocks of a text of so many bytes, from the rest on that fills no block:
// two, where the mark and the bits find no room behind the rest, otherwise one.
func ending(rest []byte, length uint64) iter.Seq[[blockSize]byte] {
	return func(yield func([blockSize]byte) bool) {
		var block [blockSize]byte
		copy(block[:], rest)
		block[len(rest)] = endMark
		if len(rest) >= lengthAt {
			if !yield(block) {
				return
			}
			block = [blockSize]byte{}
		}
		bits := 8 * length
		for i := range 8 {
			block[lengthAt+i] = byte(bits >> (56 - 8*i))
		}
		yield(block)
	}
}
