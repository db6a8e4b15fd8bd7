package fp6

import (
	"pharos/fp"
	"pharos/fp2"
)

// turns: to the power of p to so many every element is itself.
const turns = 6

// third: a third root of 1 in fp, as bytes, the highest first. It is that one of the two which,
// times i, is 1 + i to the power of (p - 1)/3.
const third = "" +
	"\x1a\x01\x11\xea\x39\x7f\xe6\x99\xec\x02\x40\x86\x63\xd4\xde\x85" +
	"\xaa\x0d\x85\x7d\x89\x75\x9a\xd4\x89\x7d\x29\x65\x0f\xb8\x5f\x9b" +
	"\x40\x94\x27\xeb\x4f\x49\xff\xfd\x8b\xfd\x00\x00\x00\x00\xaa\xac"

// Frob answers the element to the power of p to the n, n modulo 6.
func (a Elem) Frob(n int) Elem {
	n = (n%turns + turns) % turns
	// A power of p is taken of each part, and of v, by itself.
	step, factor := growth(n), fp2.One()
	var out [3]fp2.Elem
	for k, part := range a.parts() {
		if n%2 == 1 {
			part = part.Conj()
		}
		out[k] = part.Mul(factor)
		factor = factor.Mul(step)
	}
	return of(out)
}

// growth answers what v is multiplied by to become v to the power of p to the n.
func growth(n int) fp2.Elem {
	// To the power of p the third root stays, but i becomes -i: so the two factors of i that come
	// with two steps make up 1.
	root, _ := fp.From([]byte(third))
	power := fp.Of(1)
	for range n {
		power = power.Mul(root)
	}
	if n%2 == 1 {
		return fp2.Elem{C1: power}
	}
	return fp2.Elem{C0: power}
}
