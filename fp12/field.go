package fp12

import "iter"

// Add answers the sum.
func (a Elem) Add(b Elem) Elem {
	return Elem{a.C0.Add(b.C0), a.C1.Add(b.C1)}
}

// Sub answers the difference.
func (a Elem) Sub(b Elem) Elem {
	return Elem{a.C0.Sub(b.C0), a.C1.Sub(b.C1)}
}

// Mul answers the product.
func (a Elem) Mul(b Elem) Elem {
	// The product of the sums holds both mixed products, beside the two others that are needed
	// anyway: so three products do for four.
	first, last := a.C0.Mul(b.C0), a.C1.Mul(b.C1)
	all := a.C0.Add(a.C1).Mul(b.C0.Add(b.C1))
	return Elem{first.Add(last.V()), all.Sub(first).Sub(last)}
}

// Square answers the element times itself.
func (a Elem) Square() Elem {
	// C0 + C1 times C0 + C1 v holds both squares, C1's times v as it is needed, beside the mixed
	// product that is needed anyway: so two products do.
	mixed := a.C0.Mul(a.C1)
	all := a.C0.Add(a.C1).Mul(a.C0.Add(a.C1.V()))
	return Elem{all.Sub(mixed).Sub(mixed.V()), mixed.Add(mixed)}
}

// Conj answers C0 - C1 w.
func (a Elem) Conj() Elem {
	return Elem{a.C0, a.C1.Neg()}
}

// Inv answers the inverse, of 0: 0.
func (a Elem) Inv() Elem {
	// The norm, the element times its Conj, has no part of w; it is 0 of 0 alone, since v is no
	// square of fp6.
	norm := a.C0.Square().Sub(a.C1.Square().V())
	inverse := norm.Inv()
	return Elem{a.C0.Mul(inverse), a.C1.Mul(inverse).Neg()}
}

// Pow answers the element to the power of the number of e.
func (a Elem) Pow(e []byte) Elem {
	out := One()
	for set := range bits(e) {
		out = out.Square()
		if set {
			out = out.Mul(a)
		}
	}
	return out
}

// bits answers whether the bits of the number of e are set, the highest first.
func bits(e []byte) iter.Seq[bool] {
	return func(yield func(bool) bool) {
		for _, x := range e {
			for mask := byte(1 << 7); mask > 0; mask >>= 1 {
				if !yield(x&mask != 0) {
					return
				}
			}
		}
	}
}
