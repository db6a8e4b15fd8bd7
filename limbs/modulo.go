package limbs

import "math/bits"

// Mod answers t modulo m, or 0 if m is 0.
func Mod(t [12]uint64, m [6]uint64) [6]uint64 {
	var left [6]uint64
	if m == left {
		return left
	}
	for _, digit := range digits(t[:]) {
		twice, top := Add(left, left)
		twice[0] |= digit
		left = reduced(twice, top, m)
	}
	return left
}

// Mont answers a times b times the inverse of 2^384, modulo m, or 0 if m is even.
func Mont(a, b, m [6]uint64) [6]uint64 {
	if m[0]%2 == 0 {
		return [6]uint64{}
	}
	if !Less(a, m) {
		// One of the factors must be below m, for the sum to end below 2m.
		var wide [12]uint64
		copy(wide[:], a[:])
		a = Mod(wide, m)
	}
	clearing := -inverse(m[0])
	var sum [6]uint64
	var top uint64
	for _, x := range a {
		var carry, over uint64
		for j, y := range b {
			sum[j], carry = mulAdd(x, y, sum[j], carry)
		}
		top, over = bits.Add64(top, carry, 0)

		// That many times m leaves the lowest part 0, so that the sum can be divided by 2^64.
		times := sum[0] * clearing
		_, carry = mulAdd(times, m[0], sum[0], 0)
		for j := 1; j < len(m); j++ {
			sum[j-1], carry = mulAdd(times, m[j], sum[j], carry)
		}
		sum[len(sum)-1], carry = bits.Add64(top, carry, 0)
		top = over + carry
	}
	return reduced(sum, top, m)
}

// reduced answers a number below 2m modulo m. Its bit 384 stands in top, for six parts don't
// hold it.
func reduced(a [6]uint64, top uint64, m [6]uint64) [6]uint64 {
	less, borrow := Sub(a, m)
	if top == 0 && borrow == 1 {
		return a
	}
	return less
}

// inverse answers the inverse of an odd n modulo 2^64.
func inverse(n uint64) uint64 {
	// n is its own inverse modulo 2^3, and each round doubles the bits that are right.
	out := n
	for range 5 {
		out *= 2 - n*out
	}
	return out
}
