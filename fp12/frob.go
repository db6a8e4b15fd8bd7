package fp12

import (
	"pharos/fp"
	"pharos/fp2"
)

// turns: to the power of p to so many every element is itself.
const turns = 12

// sixth: the element of fp, as bytes, the highest first, which, times 1 - i, is 1 + i to the power
// of (p - 1)/6.
const sixth = "" +
	"\x19\x04\xd3\xbf\x02\xbb\x06\x67\xc2\x31\xbe\xb4\x20\x2c\x0d\x1f" +
	"\x0f\xd6\x03\xfd\x3c\xbd\x5f\x4f\x7b\x24\x43\xd7\x84\xba\xb9\xc4" +
	"\xf6\x7e\xa5\x3d\x63\xe7\x81\x3d\x8d\x07\x75\xed\x92\x23\x5f\xb8"

// Frob answers the element to the power of p to the n, n modulo 12.
func (a Elem) Frob(n int) Elem {
	n = (n%turns + turns) % turns
	// A power of p is taken of each part, and of w, by itself.
	step, factor := growth(n), fp2.One()
	var out [6]fp2.Elem
	for k, part := range a.Parts() {
		if n%2 == 1 {
			part = part.Conj()
		}
		out[k] = part.Mul(factor)
		factor = factor.Mul(step)
	}
	return of(out)
}

// growth answers what w is multiplied by to become w to the power of p to the n.
func growth(n int) fp2.Elem {
	root, _ := fp.From([]byte(sixth))
	once := fp2.Elem{C0: root, C1: root.Neg()}
	out := fp2.One()
	for range n {
		// One power of p more makes the growth that is there its Conj, and w grow once more.
		out = out.Conj().Mul(once)
	}
	return out
}
