package g2

import (
	"iter"

	"pharos/fp2"
	"pharos/fr"
)

// u: a number, as bytes, of which u^4 - u^2 + 1 is r.
const u = "\xd2\x01\x00\x00\x00\x01\x00\x00"

// powerX, powerY: elements of fp, as bytes, the highest first. A point of the curve whose x and y
// are taken to the power of p is one of the curve again if that x is multiplied by powerX i and
// that y by powerY (1 - i).
const (
	powerX = "" +
		"\x1a\x01\x11\xea\x39\x7f\xe6\x99\xec\x02\x40\x86\x63\xd4\xde\x85" +
		"\xaa\x0d\x85\x7d\x89\x75\x9a\xd4\x89\x7d\x29\x65\x0f\xb8\x5f\x9b" +
		"\x40\x94\x27\xeb\x4f\x49\xff\xfd\x8b\xfd\x00\x00\x00\x00\xaa\xad"
	powerY = "" +
		"\x13\x52\x03\xe6\x01\x80\xa6\x8e\xe2\xe9\xc4\x48\xd7\x7a\x2c\xd9" +
		"\x1c\x3d\xed\xd9\x30\xb1\xcf\x60\xef\x39\x64\x89\xf6\x1e\xb4\x5e" +
		"\x30\x44\x66\xcf\x3e\x67\xfa\x0a\xf1\xee\x7b\x04\x12\x1b\xde\xa2"
)

// Mul answers the point so many times as the number of k says.
func (p Point) Mul(k []byte) Point {
	return p.times(bits(k))
}

// MulFr answers the point k's number of times.
func (p Point) MulFr(k fr.Elem) Point {
	return p.times(k.Bits())
}

// InGroup answers whether r times the point is the infinite one.
func (p Point) InGroup() bool {
	// A point moved twice, u - 1 times it moved once, and as many times it as the field fp has
	// elements, sum up to the infinite one. If moving is -u times, that sum is r (u + 1)^2/3 times
	// the point, and r times it is infinite too, as no prime divides both (u + 1)^2/3 and the
	// number of points. In the group moving is so. This takes a quarter of r's bits.
	return p.Mul([]byte(u)).Neg().Equal(p.moved())
}

// moved answers the point of x and y to the power of p, on the curve again. Of a sum it answers the
// sum of both moved.
func (p Point) moved() Point {
	x, y := part(powerX), part(powerY)
	return Point{
		p.x.Conj().Mul(fp2.Elem{C1: x}),
		p.y.Conj().Mul(fp2.Elem{C0: y, C1: y.Neg()}),
		p.z.Conj(),
	}
}

// times answers the sum of the point's powers-of-two times whose numbers set tells, the highest
// first.
func (p Point) times(set iter.Seq[int]) Point {
	var out Point
	at := 0
	for bit := range set {
		// Ahead of the first bit there is nothing to double, and at is below it.
		out = out.doubled(at - bit).Add(p)
		at = bit
	}
	return out.doubled(at)
}

// doubled answers the point doubled n times.
func (p Point) doubled(n int) Point {
	for range n {
		p = p.Double()
	}
	return p
}

// bits answers the numbers of the bits of the number of k that are set, the highest first.
func bits(k []byte) iter.Seq[int] {
	return func(yield func(int) bool) {
		for i, x := range k {
			for bit := 7; bit >= 0; bit-- {
				if x>>bit&1 == 1 && !yield(8*(len(k)-1-i)+bit) {
					return
				}
			}
		}
	}
}
