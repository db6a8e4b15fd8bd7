package fp

import (
	"iter"

	"pharos/limbs"
)

// inverting is p - 2: an element to that power is its inverse, by Fermat's theorem.
var inverting = [6]uint64{0xb9feffffffffaaa9, 0x1eabfffeb153ffff, 0x6730d2a0f6b0f624, 0x64774b84f38512bf, 0x4b1ba7b6434bacd7, 0x1a0111ea397fe69a}

// Add answers the sum.
func (a Elem) Add(b Elem) Elem {
	// p has 381 bits, so that nothing is carried out of a sum.
	sum, _ := limbs.Add(a.form, b.form)
	less, borrow := limbs.Sub(sum, modulus)
	if borrow == 1 {
		return Elem{sum}
	}
	return Elem{less}
}

// Sub answers the difference.
func (a Elem) Sub(b Elem) Elem {
	difference, borrow := limbs.Sub(a.form, b.form)
	if borrow == 1 {
		difference, _ = limbs.Add(difference, modulus)
	}
	return Elem{difference}
}

// Neg answers 0 less the element.
func (a Elem) Neg() Elem {
	return Elem{}.Sub(a)
}

// Mul answers the product.
func (a Elem) Mul(b Elem) Elem {
	return Elem{limbs.Mont(a.form, b.form, modulus)}
}

// Square answers the element times itself.
func (a Elem) Square() Elem {
	return a.Mul(a)
}

// Inv answers the inverse, of 0: 0.
func (a Elem) Inv() Elem {
	return a.power(inverting)
}

// Pow answers the element to the power of the number of e.
func (a Elem) Pow(e []byte) Elem {
	small := a.smallPowers()
	out := small[0]
	for digit := range digits(e) {
		for range digitBits {
			out = out.Square()
		}
		out = out.Mul(small[digit])
	}
	return out
}

// power is Pow of a number.
func (a Elem) power(n [6]uint64) Elem {
	e := limbs.Bytes(n)
	return a.Pow(e[:])
}

const (
	digitBits = 4 // powers by digits of so many bits take half the products of those by single bits
	digitEnd  = 1 << digitBits
)

// smallPowers answers the element to the power of each digit.
func (a Elem) smallPowers() [digitEnd]Elem {
	out := [digitEnd]Elem{Of(1)}
	for i := 1; i < digitEnd; i++ {
		out[i] = out[i-1].Mul(a)
	}
	return out
}

// digits answers the digits of the number of e, the highest first.
func digits(e []byte) iter.Seq[byte] {
	return func(yield func(byte) bool) {
		for _, x := range e {
			if !yield(x>>digitBits) || !yield(x%digitEnd) {
				return
			}
		}
	}
}
