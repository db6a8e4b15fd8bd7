package fp6

import "pharos/fp2"

// Add answers the sum.
func (a Elem) Add(b Elem) Elem {
	return Elem{a.C0.Add(b.C0), a.C1.Add(b.C1), a.C2.Add(b.C2)}
}

// Sub answers the difference.
func (a Elem) Sub(b Elem) Elem {
	return Elem{a.C0.Sub(b.C0), a.C1.Sub(b.C1), a.C2.Sub(b.C2)}
}

// Neg answers 0 less the element.
func (a Elem) Neg() Elem {
	return Elem{a.C0.Neg(), a.C1.Neg(), a.C2.Neg()}
}

// Mul answers the product.
func (a Elem) Mul(b Elem) Elem {
	// The product of two parts' sums holds both of their mixed products, beside two others that
	// are needed anyway: so six products do for nine.
	first, middle, last := a.C0.Mul(b.C0), a.C1.Mul(b.C1), a.C2.Mul(b.C2)
	low := a.C0.Add(a.C1).Mul(b.C0.Add(b.C1)).Sub(first).Sub(middle)
	outer := a.C0.Add(a.C2).Mul(b.C0.Add(b.C2)).Sub(first).Sub(last)
	high := a.C1.Add(a.C2).Mul(b.C1.Add(b.C2)).Sub(middle).Sub(last)
	return Elem{first.Add(high.Xi()), low.Add(last.Xi()), outer.Add(middle)}
}

// Square answers the element times itself.
func (a Elem) Square() Elem {
	// The square of C0 - C1 + C2 holds the part by v v, but for what is needed anyway: so two
	// products and three squares do.
	first, last := a.C0.Square(), a.C2.Square()
	low, high := a.C0.Mul(a.C1), a.C1.Mul(a.C2)
	low, high = low.Add(low), high.Add(high)
	all := a.C0.Sub(a.C1).Add(a.C2).Square()
	return Elem{
		first.Add(high.Xi()),
		low.Add(last.Xi()),
		all.Add(low).Add(high).Sub(first).Sub(last),
	}
}

// Scale answers all parts times c.
func (a Elem) Scale(c fp2.Elem) Elem {
	var out [3]fp2.Elem
	for k, part := range a.parts() {
		out[k] = part.Mul(c)
	}
	return of(out)
}

// V answers the element times v.
func (a Elem) V() Elem {
	return Elem{a.C2.Xi(), a.C0, a.C1}
}

// Inv answers the inverse, of 0: 0.
func (a Elem) Inv() Elem {
	others := a.others()
	// The norm, others times the element, has a part by 1 alone; it is 0 of 0 alone.
	norm := a.C1.Mul(others.C2).Add(a.C2.Mul(others.C1)).Xi().Add(a.C0.Mul(others.C0))
	return others.Scale(norm.Inv())
}

// others answers the product of the two elements that the element becomes where v becomes v times
// either third root of 1.
func (a Elem) others() Elem {
	return Elem{
		a.C0.Square().Sub(a.C1.Mul(a.C2).Xi()),
		a.C2.Square().Xi().Sub(a.C0.Mul(a.C1)),
		a.C1.Square().Sub(a.C0.Mul(a.C2)),
	}
}
