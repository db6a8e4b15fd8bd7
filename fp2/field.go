package fp2

import (
	"iter"

	"pharos/fp"
)

// Add answers the sum.
func (a Elem) Add(b Elem) Elem {
	return Elem{a.C0.Add(b.C0), a.C1.Add(b.C1)}
}

// Sub answers the difference.
func (a Elem) Sub(b Elem) Elem {
	return Elem{a.C0.Sub(b.C0), a.C1.Sub(b.C1)}
}

// Neg answers 0 less the element.
func (a Elem) Neg() Elem {
	return Elem{a.C0.Neg(), a.C1.Neg()}
}

// Conj answers C0 - C1 i.
func (a Elem) Conj() Elem {
	return Elem{a.C0, a.C1.Neg()}
}

// Mul answers the product.
func (a Elem) Mul(b Elem) Elem {
	// The product of the sums holds both mixed products, beside the two others that are needed
	// anyway: so three products do for four, and each is dearer than the sums that this takes.
	first, last := a.C0.Mul(b.C0), a.C1.Mul(b.C1)
	all := a.C0.Add(a.C1).Mul(b.C0.Add(b.C1))
	return Elem{first.Sub(last), all.Sub(first).Sub(last)}
}

// Square answers the element times itself.
func (a Elem) Square() Elem {
	// A difference of squares is a product, so that two products do.
	mixed := a.C0.Mul(a.C1)
	return Elem{a.C0.Add(a.C1).Mul(a.C0.Sub(a.C1)), mixed.Add(mixed)}
}

// Scale answers both parts times c.
func (a Elem) Scale(c fp.Elem) Elem {
	return Elem{a.C0.Mul(c), a.C1.Mul(c)}
}

// Xi answers the element times 1 + i.
func (a Elem) Xi() Elem {
	return Elem{a.C0.Sub(a.C1), a.C0.Add(a.C1)}
}

// Inv answers the inverse, of 0: 0.
func (a Elem) Inv() Elem {
	return a.Conj().Scale(a.norm().Inv())
}

// norm answers the element times its Conj, which has no part of i; it is 0 of 0 alone, since -1
// is no square of fp.
func (a Elem) norm() fp.Elem {
	return a.C0.Square().Add(a.C1.Square())
}

// Pow answers the element to the power of the number of e.
func (a Elem) Pow(e []byte) Elem {
	small := a.smallPowers()
	out := small[0]
	for digit := range digits(e) {
		for range digitBits {
			out = out.Square()
		}
		out = out.Mul(small[digit])
	}
	return out
}

const (
	digitBits = 4 // powers by digits of so many bits take half the products of those by single bits
	digitEnd  = 1 << digitBits
)

// smallPowers answers the element to the power of each digit.
func (a Elem) smallPowers() [digitEnd]Elem {
	out := [digitEnd]Elem{One()}
	for i := 1; i < digitEnd; i++ {
		out[i] = out[i-1].Mul(a)
	}
	return out
}

// digits answers the digits of the number of e, the highest first.
func digits(e []byte) iter.Seq[byte] {
	return func(yield func(byte) bool) {
		for _, x := range e {
			if !yield(x>>digitBits) || !yield(x%digitEnd) {
				return
			}
		}
	}
}
