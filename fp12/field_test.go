package fp12_test

import (
	"math/big"
	"testing"

	"pharos/fp"
	"pharos/fp12"
	"pharos/fp2"
	"pharos/fp6"
)

// P7.1: sums, differences and products are those of rows of numbers modulo p.
func TestSumsAndProducts(t *testing.T) {
	for _, c := range pairs(4, 600) {
		x, y := c[0], c[1]
		a, b := elem(t, x), elem(t, y)
		if !is(t, a.Add(b), x.add(y)) {
			t.Fatalf("P7.1: %v plus %v: %v", x, y, of(a.Add(b)))
		}
		if !is(t, a.Sub(b), x.sub(y)) {
			t.Fatalf("P7.1: %v less %v: %v", x, y, of(a.Sub(b)))
		}
		if !is(t, a.Mul(b), x.mul(y)) {
			t.Fatalf("P7.1: %v times %v: %v", x, y, of(a.Mul(b)))
		}
	}
}

// P7.1: each number of one times each number of the other comes to its place.
func TestProductsOfPlaces(t *testing.T) {
	for j := range 12 {
		for k := range 12 {
			x, y := single(j, big.NewInt(3)), single(k, from(0, -5))
			if got := elem(t, x).Mul(elem(t, y)); !is(t, got, x.mul(y)) {
				t.Errorf("P7.1: %v times %v: %v", x, y, of(got))
			}
			if got := elem(t, x.add(y)).Square(); !is(t, got, x.add(y).mul(x.add(y))) {
				t.Errorf("P7.1: Square of %v: %v", x.add(y), of(got))
			}
		}
	}
}

// P7.1: Square and Conj are those of rows of numbers modulo p.
func TestOfOne(t *testing.T) {
	for _, x := range numbers(5, 600) {
		a := elem(t, x)
		if !is(t, a.Square(), x.mul(x)) {
			t.Fatalf("P7.1: Square of %v: %v", x, of(a.Square()))
		}
		if !is(t, a.Conj(), x.conj()) || !a.Conj().C0.Equal(a.C0) || !a.Conj().C1.Equal(a.C1.Neg()) {
			t.Fatalf("P7.1: Conj of %v: %v", x, of(a.Conj()))
		}
	}
}

// P7.1: the inverse is the one by which the numbers' product is 1; of 0 it is 0.
func TestInv(t *testing.T) {
	for _, x := range numbers(6, 200) {
		got := of(elem(t, x).Inv())
		if x.isZero() && !got.isZero() || !x.isZero() && !x.mul(got).equal(small(1)) {
			t.Fatalf("P7.1: Inv of %v: %v", x, got)
		}
	}
}

// P7.1: the chapter's example, and other sums and products, written out.
func TestWrittenOut(t *testing.T) {
	one, w := fp12.One(), fp12.Elem{C1: fp6.One()}
	i := fp12.Elem{C0: fp6.Elem{C0: fp2.Elem{C1: fp.Of(1)}}}
	v := fp12.Elem{C0: fp6.One().V()}
	a := elem(t, small(1, 2, 3, 4, 5, 6, 7, 8, 9, 10, 11, 12))
	for n, c := range []struct {
		got  fp12.Elem
		want whole
	}{
		{w.Pow([]byte{6}), small(1, 1)},
		{w.Mul(w).Mul(w).Mul(w).Mul(w).Mul(w), small(1, 1)},
		{w.Mul(w), of(v)},
		{w.Square(), small(0, 0, 0, 0, 1)},
		{w.Square().Mul(w), small(0, 0, 0, 0, 0, 0, 1)},
		{w.Square().Square(), small(0, 0, 0, 0, 0, 0, 0, 0, 1)},
		{w.Square().Square().Mul(w), small(0, 0, 0, 0, 0, 0, 0, 0, 0, 0, 1)},
		{w.Square().Mul(w).Square(), small(1, 1)},
		{w.Pow([]byte{7}), small(0, 0, 1, 1)},
		{w.Pow([]byte{12}), small(0, 2)},
		{w.Pow([]byte{24}), small(-4)},
		{w.Conj(), small(0, 0, -1)},
		{w.Mul(w.Conj()), small(0, 0, 0, 0, -1)},
		{v.Conj(), small(0, 0, 0, 0, 1)},
		{i.Mul(i), small(-1)},
		{i.Square(), small(-1)},
		{i.Conj(), small(0, 1)},
		{i.Inv(), small(0, -1)},
		{w.Inv().Mul(elem(t, small(2))), small(0, 0, 0, 0, 0, 0, 0, 0, 0, 0, 1, -1)}, // w to the 5 over 1 + i
		{v.Inv().Mul(elem(t, small(2))), small(0, 0, 0, 0, 0, 0, 0, 0, 1, -1)},
		{one.Inv(), small(1)},
		{one.Conj(), small(1)},
		{fp12.Elem{}.Inv(), small()},
		{a.Mul(w), small(-1, 23, 1, 2, 3, 4, 5, 6, 7, 8, 9, 10)},
		{a.Mul(i), small(-2, 1, -4, 3, -6, 5, -8, 7, -10, 9, -12, 11)},
		{a.Mul(w.Pow([]byte{6})), small(-1, 3, -1, 7, -1, 11, -1, 15, -1, 19, -1, 23)},
		{a.Add(w), small(1, 2, 4, 4, 5, 6, 7, 8, 9, 10, 11, 12)},
		{a.Sub(v), small(1, 2, 3, 4, 4, 6, 7, 8, 9, 10, 11, 12)},
		{a.Conj(), small(1, 2, -3, -4, 5, 6, -7, -8, 9, 10, -11, -12)},
		{a.Sub(a.Conj()), small(0, 0, 6, 8, 0, 0, 14, 16, 0, 0, 22, 24)},
		{elem(t, small(1, 0, 1)).Mul(elem(t, small(1, 0, -1))), small(1, 0, 0, 0, -1)},
		{elem(t, small(1, 0, 1)).Square(), small(1, 0, 2, 0, 1)},
		{elem(t, small(1, 0, 1, 0, 1, 0, 1, 0, 1, 0, 1)).Mul(elem(t, small(-1, 0, 1))), small(0, 1)}, // w to the 6, less 1
		{a.Add(elem(t, small(-1, -2, -3, -4, -5, -6, -7, -8, -9, -10, -11, -11))), small(0, 0, 0, 0, 0, 0, 0, 0, 0, 0, 0, 1)},
	} {
		if !is(t, c.got, c.want) {
			t.Errorf("P7.1: line %d: %v, wanted %v", n, of(c.got), c.want)
		}
	}
}

// P7.2: sums and products in any order and grouping, and spread over one another.
func TestFieldLaws(t *testing.T) {
	more := numbers(7, 600)
	for k, c := range pairs(8, 600) {
		a, b, d := elem(t, c[0]), elem(t, c[1]), elem(t, more[k%len(more)])
		if !a.Add(b).Equal(b.Add(a)) || !a.Mul(b).Equal(b.Mul(a)) {
			t.Fatalf("P7.2: order of %v and %v", c[0], c[1])
		}
		if !a.Add(b).Add(d).Equal(a.Add(b.Add(d))) || !a.Mul(b).Mul(d).Equal(a.Mul(b.Mul(d))) {
			t.Fatalf("P7.2: grouping of %v, %v and %v", c[0], c[1], of(d))
		}
		if !a.Add(b).Mul(d).Equal(a.Mul(d).Add(b.Mul(d))) || !a.Sub(b).Mul(d).Equal(a.Mul(d).Sub(b.Mul(d))) {
			t.Fatalf("P7.2: spreading of %v, %v and %v", c[0], c[1], of(d))
		}
		if !a.Sub(b).Add(b).Equal(a) || !a.Sub(b).Add(b.Sub(a)).IsZero() {
			t.Fatalf("P7.2: difference of %v and %v", c[0], c[1])
		}
		if a.Mul(b).IsZero() != (a.IsZero() || b.IsZero()) {
			t.Fatalf("P7.2: %v times %v", c[0], c[1])
		}
		if !a.Mul(b).Conj().Equal(a.Conj().Mul(b.Conj())) || !a.Add(b).Conj().Equal(a.Conj().Add(b.Conj())) {
			t.Fatalf("P7.2: Conj of %v and %v", c[0], c[1])
		}
	}
}

// P7.2: each has a negative, and each but 0 an inverse.
func TestFieldInverses(t *testing.T) {
	var zero fp12.Elem
	for _, x := range numbers(9, 200) {
		a := elem(t, x)
		if minus := zero.Sub(a); !a.Add(minus).IsZero() || !minus.Square().Equal(a.Square()) {
			t.Fatalf("P7.2: the negative of %v", x)
		}
		if !a.Inv().Inv().Equal(a) || !a.IsZero() && !a.Mul(a.Inv()).Equal(fp12.One()) {
			t.Fatalf("P7.2: the inverse of %v", x)
		}
		if !a.Square().Equal(a.Mul(a)) || !a.Conj().Conj().Equal(a) || !a.Mul(a.Conj()).C1.IsZero() {
			t.Fatalf("P7.2: the square or Conj of %v", x)
		}
	}
}

func BenchmarkMul(b *testing.B) {
	x := bench()
	for b.Loop() {
		x = x.Mul(x)
	}
}

func BenchmarkSquare(b *testing.B) {
	x := bench()
	for b.Loop() {
		x = x.Square()
	}
}

func BenchmarkInv(b *testing.B) {
	x := bench()
	for b.Loop() {
		x = x.Inv()
	}
}

// bench tells an element of which no part is small.
func bench() fp12.Elem {
	c := fp2.Elem{C0: fp.Of(3).Inv(), C1: fp.Of(5).Inv()}
	d := fp6.Elem{C0: c, C1: c.Xi(), C2: c.Square()}
	return fp12.Elem{C0: d, C1: d.Square()}
}
