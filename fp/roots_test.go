package fp_test

import (
	"math/big"
	"testing"

	"pharos/fp"
)

// P3.3: Legendre is that of numbers.
func TestLegendre(t *testing.T) {
	for _, x := range numbers(17, 500) {
		if got := elem(t, x).Legendre(); got != big.Jacobi(x, prime()) {
			t.Fatalf("P3.3: Legendre of %x: %d", x, got)
		}
	}
}

// P3.3: Legendre of 0, of 1, of a square, of -1 and of a square's negative, written out.
func TestLegendreWrittenOut(t *testing.T) {
	for _, c := range []struct {
		a    fp.Elem
		want int
	}{
		{fp.Elem{}, 0},
		{fp.Of(0), 0},
		{fp.Of(1), 1},
		{fp.Of(4), 1},
		{fp.Of(9), 1},
		{fp.Of(1).Neg(), -1}, // p is 3 modulo 4
		{fp.Of(4).Neg(), -1},
		{fp.Of(2), -1}, // p is 3 modulo 8
	} {
		if got := c.a.Legendre(); got != c.want {
			t.Errorf("P3.3: Legendre of %x: %d", c.a.Bytes(), got)
		}
	}
}

// P3.3: Sqrt is that root of math/big's which is at most (p - 1)/2; where there is none, 0.
func TestSqrt(t *testing.T) {
	for _, x := range numbers(18, 500) {
		root, ok := elem(t, x).Sqrt()
		want := new(big.Int).ModSqrt(x, prime())
		if ok != (want != nil) {
			t.Fatalf("P3.3: Sqrt of %x: %v", x, ok)
		}
		if want == nil {
			want = new(big.Int)
		}
		if want.Cmp(from(1, 1, 0)) > 0 {
			want.Sub(prime(), want)
		}
		if !is(t, root, want) {
			t.Fatalf("P3.3: Sqrt of %x: %x", x, root.Bytes())
		}
	}
}

// P3.3: of every square there is the root that isn't Large: the number squared, or its negative.
func TestSqrtOfSquares(t *testing.T) {
	for _, x := range numbers(19, 500) {
		a := elem(t, x)
		want := a
		if x.Cmp(from(1, 1, 0)) > 0 {
			want = a.Neg()
		}
		if root, ok := a.Square().Sqrt(); !ok || !root.Equal(want) || root.Large() {
			t.Fatalf("P3.3: Sqrt of the square of %x: %x, %v", x, root.Bytes(), ok)
		}
		if x.Sign() == 0 {
			continue
		}
		if root, ok := a.Square().Neg().Sqrt(); ok || !root.IsZero() {
			t.Fatalf("P3.3: Sqrt of a square's negative, of %x: %x, %v", x, root.Bytes(), ok)
		}
	}
}

// P3.3: the chapter's example, the root of 0, and those that have none, written out.
func TestSqrtWrittenOut(t *testing.T) {
	for _, c := range []struct {
		a, root fp.Elem
		ok      bool
	}{
		{fp.Of(4), fp.Of(2), true},
		{fp.Elem{}, fp.Of(0), true},
		{fp.Of(0), fp.Of(0), true},
		{fp.Of(1), fp.Of(1), true},
		{fp.Of(9), fp.Of(3), true},
		{fp.Of(1).Neg(), fp.Of(0), false},
		{fp.Of(4).Neg(), fp.Of(0), false},
		{fp.Of(2), fp.Of(0), false},
	} {
		if root, ok := c.a.Sqrt(); ok != c.ok || !root.Equal(c.root) {
			t.Errorf("P3.3: Sqrt of %x: %x, %v", c.a.Bytes(), root.Bytes(), ok)
		}
	}
}

// P3.3: Odd and Large are those of the element's number; of an element but 0 and its negative
// just one is Odd, and just one is Large.
func TestOddAndLarge(t *testing.T) {
	for _, x := range numbers(20, 2000) {
		a := elem(t, x)
		if a.Odd() != (x.Bit(0) == 1) {
			t.Fatalf("P3.3: Odd of %x", x)
		}
		if a.Large() != (x.Cmp(from(1, 1, 0)) > 0) {
			t.Fatalf("P3.3: Large of %x", x)
		}
		if x.Sign() != 0 && (a.Odd() == a.Neg().Odd() || a.Large() == a.Neg().Large()) {
			t.Fatalf("P3.3: Odd and Large of %x and its negative", x)
		}
	}
}

// P3.3: Odd and Large at 0, about the half and about p, written out.
func TestOddAndLargeWrittenOut(t *testing.T) {
	for _, c := range []struct {
		x          *big.Int
		odd, large bool
	}{
		{big.NewInt(0), false, false},
		{big.NewInt(1), true, false},
		{big.NewInt(2), false, false},
		{from(1, 1, -1), false, false},
		{from(1, 1, 0), true, false}, // (p - 1)/2
		{from(1, 1, 1), false, true},
		{from(1, 0, -2), true, true},
		{from(1, 0, -1), false, true},
	} {
		if a := elem(t, c.x); a.Odd() != c.odd || a.Large() != c.large {
			t.Errorf("P3.3: of %x Odd %v, Large %v", c.x, a.Odd(), a.Large())
		}
	}
	if (fp.Elem{}).Odd() || (fp.Elem{}).Large() {
		t.Error("P3.3: of a zero Elem")
	}
}

func BenchmarkSqrt(b *testing.B) {
	x := fp.Of(1 << 40)
	for b.Loop() {
		x.Sqrt()
	}
}
