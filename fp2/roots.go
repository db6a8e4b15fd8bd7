package fp2

import "pharos/fp"

// IsSquare answers whether the element is a square; 0 is.
func (a Elem) IsSquare() bool {
	// The power of (p^2 - 1)/2, which tells squares from others, is the norm's of (p - 1)/2.
	return a.norm().Legendre() >= 0
}

// Sqrt answers the root that isn't Large, or false if there is none.
func (a Elem) Sqrt() (Elem, bool) {
	if a.C1.IsZero() {
		return rootOfReal(a.C0), true
	}
	length, ok := a.norm().Sqrt()
	if !ok {
		return Elem{}, false
	}
	root := a.rootBy(length)
	if root.Large() {
		root = root.Neg()
	}
	return root, true
}

// rootOfReal answers the root of c that isn't Large: as -1 is no square of fp, either c or -c has
// a root there.
func rootOfReal(c fp.Elem) Elem {
	if root, ok := c.Sqrt(); ok {
		return Elem{C0: root}
	}
	root, _ := c.Neg().Sqrt()
	return Elem{C1: root}
}

// rootBy answers a root of an element whose C1 isn't 0, by a root of its norm.
func (a Elem) rootBy(length fp.Elem) Elem {
	// With x + y i for the root, x^2 - y^2 is C0, 2 x y is C1, and x^2 + y^2 is length or its
	// negative. So C0 + length is 2 x^2, or it is -2 y^2, and twice that is a square in the first
	// case alone. Neither x nor y is 0.
	sum := a.C0.Add(length)
	square := sum.Add(sum)
	if twice, ok := square.Sqrt(); ok {
		inverse := twice.Inv()
		return Elem{sum.Mul(inverse), a.C1.Mul(inverse)}
	}
	twice, _ := square.Neg().Sqrt()
	inverse := twice.Inv()
	return Elem{a.C1.Mul(inverse), sum.Neg().Mul(inverse)}
}
