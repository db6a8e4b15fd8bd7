package fr

import "pharos/limbs"

// inverting is r - 2: an element to that power is its inverse, by Fermat's theorem.
var inverting = [6]uint64{0xfffffffeffffffff, 0x53bda402fffe5bfe, 0x3339d80809a1d805, 0x73eda753299d7d48}

// Add answers the sum.
func (a Elem) Add(b Elem) Elem {
	// r has 255 bits, so that nothing is carried out of a sum.
	sum, _ := limbs.Add(a.number, b.number)
	less, borrow := limbs.Sub(sum, modulus)
	if borrow == 1 {
		return Elem{sum}
	}
	return Elem{less}
}

// Sub answers the difference.
func (a Elem) Sub(b Elem) Elem {
	difference, borrow := limbs.Sub(a.number, b.number)
	if borrow == 1 {
		difference, _ = limbs.Add(difference, modulus)
	}
	return Elem{difference}
}

// Neg answers 0 less the element.
func (a Elem) Neg() Elem {
	return Elem{}.Sub(a)
}

// Mul answers the product.
func (a Elem) Mul(b Elem) Elem {
	return Elem{product(a.number, b.number)}
}

// Inv answers the inverse, of 0: 0.
func (a Elem) Inv() Elem {
	squares := a.squares()
	out := Of(1)
	for bit := range limbs.Bits(inverting) {
		out = out.Mul(squares[bit])
	}
	return out
}

// squares answers the element, its square, the square of that, and so on: one a bit of a power.
func (a Elem) squares() [8 * size]Elem {
	out := [8 * size]Elem{a}
	for i := 1; i < len(out); i++ {
		out[i] = out[i-1].Mul(out[i-1])
	}
	return out
}

// product answers a times b modulo r, of an a below r and any b.
func product(a, b [6]uint64) [6]uint64 {
	// a stands first since limbs.Mont is quick if its first factor is below the modulus. The
	// second call takes away what the first one divided by.
	return limbs.Mont(limbs.Mont(a, b, modulus), lift, modulus)
}
