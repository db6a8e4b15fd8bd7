package g1

import (
	"iter"

	"pharos/fp"
	"pharos/fr"
)

// u: a number, as bytes, of which u^4 - u^2 + 1 is r.
const u = "\xd2\x01\x00\x00\x00\x01\x00\x00"

// turn: the element, as bytes, the highest first, by which the group's x is multiplied where y
// stays and the point becomes -u^2 times it. Turned thrice a point is itself.
const turn = "" +
	"\x00\x00\x00\x00\x00\x00\x00\x00\x5f\x19\x67\x2f\xdf\x76\xce\x51" +
	"\xba\x69\xc6\x07\x6a\x0f\x77\xea\xdd\xb3\xa9\x3b\xe6\xf8\x96\x88" +
	"\xde\x17\xd8\x13\x62\x0a\x00\x02\x2e\x01\xff\xff\xff\xfe\xff\xfe"

// Mul answers the point so many times as the number of k says.
func (p Point) Mul(k []byte) Point {
	return p.times(bits(k))
}

// MulFr answers the point k's number of times.
func (p Point) MulFr(k fr.Elem) Point {
	return p.times(k.Bits())
}

// InGroup answers whether r times the point is the infinite one.
func (p Point) InGroup() bool {
	// A point, turned, and turned twice, sum up to the infinite one, since the three have one y
	// and so lie on one line. If turning is -u^2 times, that sum is u^4 - u^2 + 1 times the
	// point, which is r times; and in the group turning is so. This takes half of r's bits.
	by, _ := fp.From([]byte(turn))
	turned := Point{p.x.Mul(by), p.y, p.z}
	return p.Mul([]byte(u)).Mul([]byte(u)).Neg().Equal(turned)
}

// times answers the sum of the point's powers-of-two times whose numbers set tells, the highest
// first.
func (p Point) times(set iter.Seq[int]) Point {
	var out Point
	at := 0
	for bit := range set {
		// Ahead of the first bit there is nothing to double, and at is below it.
		out = out.doubled(at - bit).Add(p)
		at = bit
	}
	return out.doubled(at)
}

// doubled answers the point doubled n times.
func (p Point) doubled(n int) Point {
	for range n {
		p = p.Double()
	}
	return p
}

// bits answers the numbers of the bits of the number of k that are set, the highest first.
func bits(k []byte) iter.Seq[int] {
	return func(yield func(int) bool) {
		for i, x := range k {
			for bit := 7; bit >= 0; bit-- {
				if x>>bit&1 == 1 && !yield(8*(len(k)-1-i)+bit) {
					return
				}
			}
		}
	}
}
