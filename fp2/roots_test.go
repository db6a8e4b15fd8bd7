package fp2_test

import (
	"math/big"
	"testing"

	"pharos/fp"
	"pharos/fp2"
)

// large tells whether a number is above (p - 1)/2.
func large(x *big.Int) bool { return x.Cmp(from(1, 0)) > 0 }

// isLarge tells Large of a pair of numbers.
func (a whole) isLarge() bool {
	if a.y.Sign() == 0 {
		return large(a.x)
	}
	return large(a.y)
}

// sgn tells sgn0 as RFC 9380 writes it: part by part.
func (a whole) sgn() int {
	var sign uint
	zero := uint(1)
	for _, x := range []*big.Int{a.x, a.y} {
		sign |= zero & x.Bit(0)
		if x.Sign() != 0 {
			zero = 0
		}
	}
	return int(sign)
}

// P5.2: an element is a square if its power of (p^2 - 1)/2 isn't -1.
func TestIsSquare(t *testing.T) {
	half := new(big.Int).Mul(prime(), prime())
	half.Rsh(half, 1)
	squares, others := 0, 0
	for _, x := range numbers(13, 100) {
		power := x.pow(half)
		want := power.isZero() || power.equal(small(1, 0))
		if want {
			squares++
		} else {
			others++
		}
		if elem(t, x).IsSquare() != want {
			t.Fatalf("P5.2: IsSquare of %v: %v", x, !want)
		}
	}
	if squares < 50 || others < 50 {
		t.Errorf("P5.2: %d squares and %d others", squares, others)
	}
}

// P5.2: Sqrt is a root that isn't Large, or 0 of what is no square.
func TestSqrt(t *testing.T) {
	for _, x := range numbers(14, 500) {
		a := elem(t, x)
		root, ok := a.Sqrt()
		y := of(root)
		if ok != a.IsSquare() {
			t.Fatalf("P5.2: Sqrt of %v: %v", x, ok)
		}
		if ok && (!y.mul(y).equal(x) || y.isLarge()) || !ok && !y.isZero() {
			t.Fatalf("P5.2: Sqrt of %v: %v, %v", x, y, ok)
		}
	}
}

// P5.2: of every square there is the root that isn't Large: the element squared, or its negative;
// a square times what is none is none.
func TestSqrtOfSquares(t *testing.T) {
	none := elem(t, small(1, 1))
	for _, x := range numbers(15, 300) {
		a := elem(t, x)
		want := a
		if x.isLarge() {
			want = a.Neg()
		}
		if root, ok := a.Square().Sqrt(); !ok || !root.Equal(want) || root.Large() || !a.Square().IsSquare() {
			t.Fatalf("P5.2: Sqrt of the square of %v: %v, %v", x, of(root), ok)
		}
		if x.isZero() {
			continue
		}
		other := a.Square().Mul(none)
		if root, ok := other.Sqrt(); ok || !root.IsZero() || other.IsSquare() {
			t.Fatalf("P5.2: Sqrt of the square of %v times 1 + i: %v, %v", x, of(root), ok)
		}
	}
}

// P5.2: roots of 0, of numbers without a part of i, of multiples of i, and of what has none,
// written out.
func TestSqrtWrittenOut(t *testing.T) {
	for _, c := range []struct {
		a    whole
		root whole
		ok   bool
	}{
		{small(0, 0), small(0, 0), true},
		{small(1, 0), small(1, 0), true},
		{small(4, 0), small(2, 0), true},
		{whole{from(0, -1), big.NewInt(0)}, small(0, 1), true},
		{whole{from(0, -4), big.NewInt(0)}, small(0, 2), true},
		{small(0, 2), small(1, 1), true},
		{small(0, 8), small(2, 2), true},
		{whole{big.NewInt(0), from(0, -2)}, whole{from(0, -1), big.NewInt(1)}, true},
		{small(3, 4), small(2, 1), true},
		{whole{from(0, -3), big.NewInt(4)}, small(1, 2), true},
		{whole{big.NewInt(3), from(0, -4)}, whole{from(0, -2), big.NewInt(1)}, true},
		{whole{from(0, -3), from(0, -4)}, whole{from(0, -1), big.NewInt(2)}, true},
		{small(1, 1), small(0, 0), false},
		{whole{from(0, -1), big.NewInt(1)}, small(0, 0), false},
		{whole{from(0, -1), from(0, -1)}, small(0, 0), false},
		{small(2, 2), small(0, 0), false},
	} {
		root, ok := elem(t, c.a).Sqrt()
		if ok != c.ok || !is(t, root, c.root) || elem(t, c.a).IsSquare() != c.ok {
			t.Errorf("P5.2: Sqrt of %v: %v, %v", c.a, of(root), ok)
		}
	}
}

// P5.2: Sgn and Large are those of the numbers; of an element but 0 and its negative just one has
// Sgn 1, and just one is Large.
func TestSgnAndLarge(t *testing.T) {
	for _, x := range numbers(16, 2000) {
		a := elem(t, x)
		if a.Sgn() != x.sgn() {
			t.Fatalf("P5.2: Sgn of %v: %d", x, a.Sgn())
		}
		if a.Large() != x.isLarge() {
			t.Fatalf("P5.2: Large of %v: %v", x, a.Large())
		}
		if !x.isZero() && (a.Sgn() == a.Neg().Sgn() || a.Large() == a.Neg().Large()) {
			t.Fatalf("P5.2: Sgn and Large of %v and its negative", x)
		}
	}
}

// P5.2: Sgn and Large at 0, about the half and about p, in either part, written out.
func TestSgnAndLargeWrittenOut(t *testing.T) {
	for _, c := range []struct {
		a     whole
		sgn   int
		large bool
	}{
		{small(0, 0), 0, false},
		{small(1, 0), 1, false},
		{small(2, 0), 0, false},
		{small(0, 1), 1, false},
		{small(0, 2), 0, false},
		{small(1, 1), 1, false},
		{small(1, 2), 1, false},
		{small(2, 1), 0, false},
		{whole{from(1, 0), big.NewInt(0)}, 1, false}, // (p - 1)/2
		{whole{from(1, 1), big.NewInt(0)}, 0, true},
		{whole{from(0, -1), big.NewInt(0)}, 0, true},
		{whole{from(0, -2), big.NewInt(0)}, 1, true},
		{whole{big.NewInt(0), from(1, 0)}, 1, false},
		{whole{big.NewInt(0), from(1, 1)}, 0, true},
		{whole{big.NewInt(0), from(0, -2)}, 1, true},
		{whole{from(0, -1), big.NewInt(1)}, 0, false},
		{whole{big.NewInt(1), from(0, -1)}, 1, true},
		{whole{big.NewInt(2), from(0, -2)}, 0, true},
		{whole{from(0, -1), from(1, 0)}, 0, false},
		{whole{from(0, -1), from(1, 1)}, 0, true},
	} {
		if a := elem(t, c.a); a.Sgn() != c.sgn || a.Large() != c.large {
			t.Errorf("P5.2: of %v Sgn %d, Large %v", c.a, a.Sgn(), a.Large())
		}
	}
	if i := (fp2.Elem{C1: fp.Of(1)}); i.Sgn() != 1 || i.Neg().Sgn() != 0 || i.Large() || !i.Neg().Large() {
		t.Error("P5.2: Sgn and Large of i and of its negative")
	}
}

func BenchmarkSqrt(b *testing.B) {
	x := fp2.Elem{C0: fp.Of(3).Inv(), C1: fp.Of(5).Neg()}.Square()
	for b.Loop() {
		x.Sqrt()
	}
}
