package limbs

import "iter"

const (
	partBits  = 64
	partBytes = 8
	size      = 48 // bytes of a number
)

// From answers the number of b, its highest byte first, or false if b has too many bytes.
func From(b []byte) ([6]uint64, bool) {
	var out [6]uint64
	if len(b) > size {
		return out, false
	}
	for i, x := range b {
		place := len(b) - 1 - i
		out[place/partBytes] |= uint64(x) << (8 * (place % partBytes))
	}
	return out, true
}

// Bytes answers a as bytes, the highest first.
func Bytes(a [6]uint64) [48]byte {
	var out [size]byte
	for i := range out {
		place := size - 1 - i
		out[i] = byte(a[place/partBytes] >> (8 * (place % partBytes)))
	}
	return out
}

// Bits answers the numbers of the bits of a that are set, the highest first.
func Bits(a [6]uint64) iter.Seq[int] {
	return func(yield func(int) bool) {
		for number, digit := range digits(a[:]) {
			if digit == 1 && !yield(number) {
				return
			}
		}
	}
}

// digits answers each bit of a number of any parts, with its own number, the highest first.
func digits(a []uint64) iter.Seq2[int, uint64] {
	return func(yield func(int, uint64) bool) {
	parts:
		for i := len(a) - 1; i >= 0; i-- {
			for at := partBits - 1; at >= 0; at-- {
				if !yield(partBits*i+at, a[i]>>at&1) {
					break parts
				}
			}
		}
	}
}
