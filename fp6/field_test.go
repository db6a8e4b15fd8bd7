package fp6_test

import (
	"math/big"
	"testing"

	"pharos/fp"
	"pharos/fp2"
	"pharos/fp6"
)

// P6.1: sums, differences and products are those of rows of numbers modulo p.
func TestSumsAndProducts(t *testing.T) {
	for _, c := range pairs(4, 1000) {
		x, y := c[0], c[1]
		a, b := elem(t, x), elem(t, y)
		if !is(t, a.Add(b), x.add(y)) {
			t.Fatalf("P6.1: %v plus %v: %v", x, y, of(a.Add(b)))
		}
		if !is(t, a.Sub(b), x.sub(y)) {
			t.Fatalf("P6.1: %v less %v: %v", x, y, of(a.Sub(b)))
		}
		if !is(t, a.Mul(b), x.mul(y)) {
			t.Fatalf("P6.1: %v times %v: %v", x, y, of(a.Mul(b)))
		}
		scale := small()
		scale[0], scale[1] = y[2], y[3]
		if !is(t, a.Scale(b.C1), x.mul(scale)) {
			t.Fatalf("P6.1: %v by %v: %v", x, scale, of(a.Scale(b.C1)))
		}
	}
}

// P6.1: Neg, Square and V are those of rows of numbers modulo p.
func TestOfOne(t *testing.T) {
	for _, x := range numbers(5, 1000) {
		a := elem(t, x)
		if !is(t, a.Neg(), small().sub(x)) {
			t.Fatalf("P6.1: Neg of %v: %v", x, of(a.Neg()))
		}
		if !is(t, a.Square(), x.mul(x)) {
			t.Fatalf("P6.1: Square of %v: %v", x, of(a.Square()))
		}
		if !is(t, a.V(), x.mul(small(0, 0, 1))) {
			t.Fatalf("P6.1: V of %v: %v", x, of(a.V()))
		}
	}
}

// P6.1: the inverse is the one by which the numbers' product is 1; of 0 it is 0.
func TestInv(t *testing.T) {
	for _, x := range numbers(6, 300) {
		got := of(elem(t, x).Inv())
		if x.isZero() && !got.isZero() || !x.isZero() && !x.mul(got).equal(small(1)) {
			t.Fatalf("P6.1: Inv of %v: %v", x, got)
		}
	}
}

// P6.1: the chapter's example, and other sums and products, written out.
func TestWrittenOut(t *testing.T) {
	one, i, v := fp6.One(), fp6.Elem{C0: fp2.Elem{C1: fp.Of(1)}}, fp6.Elem{C1: fp2.One()}
	a := elem(t, small(1, 2, 3, 4, 5, 6))
	for n, c := range []struct {
		got  fp6.Elem
		want whole
	}{
		{v.Mul(v).Mul(v), small(1, 1)},
		{v.Mul(v), small(0, 0, 0, 0, 1)},
		{v.Square(), small(0, 0, 0, 0, 1)},
		{v.Square().Mul(v), small(1, 1)},
		{v.Square().Square(), small(0, 0, 1, 1)},
		{v.V(), small(0, 0, 0, 0, 1)},
		{v.V().V(), small(1, 1)},
		{one.V(), small(0, 0, 1)},
		{i.V(), small(0, 0, 0, 1)},
		{i.V().V().V(), small(-1, 1)},
		{i.Mul(i), small(-1)},
		{i.Inv(), small(0, -1)},
		{v.Mul(v.Square()).Inv().Mul(elem(t, small(2))), small(1, -1)},
		{v.Inv().Mul(elem(t, small(2))), small(0, 0, 0, 0, 1, -1)}, // v v over 1 + i
		{one.Inv(), small(1)},
		{one.Neg(), small(-1)},
		{fp6.Elem{}.Inv(), small()},
		{a.V(), small(-1, 11, 1, 2, 3, 4)},
		{a.V().V().V(), small(-1, 3, -1, 7, -1, 11)},
		{a.Scale(fp2.Elem{C0: fp.Of(2)}), small(2, 4, 6, 8, 10, 12)},
		{a.Scale(fp2.Elem{C1: fp.Of(1)}), small(-2, 1, -4, 3, -6, 5)},
		{a.Scale(fp2.Elem{C0: fp.Of(3), C1: fp.Of(2)}), small(-1, 8, 1, 18, 3, 28)},
		{a.Add(v), small(1, 2, 4, 4, 5, 6)},
		{a.Sub(v.Square()), small(1, 2, 3, 4, 4, 6)},
		{a.Neg(), small(-1, -2, -3, -4, -5, -6)},
		{elem(t, small(1, 0, 1)).Mul(elem(t, small(1, 0, -1))), small(1, 0, 0, 0, -1)},
		{elem(t, small(1, 0, 1, 0, 1)).Mul(elem(t, small(-1, 0, 1))), small(0, 1)}, // v v v - 1
		{elem(t, small(1, 0, 1, 0, 1)).Square(), small(3, 2, 3, 1, 3)},
		{elem(t, small(-1, -1, -1, -1, -1, -1)).Add(elem(t, small(2, 1, 1, 1, 1, 1))), small(1)},
	} {
		if !is(t, c.got, c.want) {
			t.Errorf("P6.1: line %d: %v, wanted %v", n, of(c.got), c.want)
		}
	}
}

// P6.2: sums and products in any order and grouping, and spread over one another.
func TestFieldLaws(t *testing.T) {
	more := numbers(7, 1000)
	for k, c := range pairs(8, 1000) {
		a, b, d := elem(t, c[0]), elem(t, c[1]), elem(t, more[k%len(more)])
		if !a.Add(b).Equal(b.Add(a)) || !a.Mul(b).Equal(b.Mul(a)) {
			t.Fatalf("P6.2: order of %v and %v", c[0], c[1])
		}
		if !a.Add(b).Add(d).Equal(a.Add(b.Add(d))) || !a.Mul(b).Mul(d).Equal(a.Mul(b.Mul(d))) {
			t.Fatalf("P6.2: grouping of %v, %v and %v", c[0], c[1], of(d))
		}
		if !a.Add(b).Mul(d).Equal(a.Mul(d).Add(b.Mul(d))) || !a.Sub(b).Mul(d).Equal(a.Mul(d).Sub(b.Mul(d))) {
			t.Fatalf("P6.2: spreading of %v, %v and %v", c[0], c[1], of(d))
		}
		if !a.Sub(b).Add(b).Equal(a) || !a.Sub(b).Equal(a.Add(b.Neg())) || !a.Sub(b).Equal(b.Sub(a).Neg()) {
			t.Fatalf("P6.2: difference of %v and %v", c[0], c[1])
		}
		if a.Mul(b).IsZero() != (a.IsZero() || b.IsZero()) {
			t.Fatalf("P6.2: %v times %v", c[0], c[1])
		}
		if !a.Scale(b.C0).Equal(a.Mul(fp6.Elem{C0: b.C0})) || !a.Mul(b).V().Equal(a.V().Mul(b)) {
			t.Fatalf("P6.2: Scale or V of %v and %v", c[0], c[1])
		}
	}
}

// P6.2: each has a negative, and each but 0 an inverse.
func TestFieldInverses(t *testing.T) {
	for _, x := range numbers(9, 200) {
		a := elem(t, x)
		if !a.Add(a.Neg()).IsZero() || !a.Neg().Neg().Equal(a) {
			t.Fatalf("P6.2: the negative of %v", x)
		}
		if !a.Inv().Inv().Equal(a) || !a.IsZero() && !a.Mul(a.Inv()).Equal(fp6.One()) {
			t.Fatalf("P6.2: the inverse of %v", x)
		}
		if !a.Square().Equal(a.Mul(a)) || !a.Neg().Square().Equal(a.Square()) {
			t.Fatalf("P6.2: the square of %v", x)
		}
	}
}

// P6.2: to the power of p^6 each is itself, and to that of p^6 - 1 each but 0 is 1.
func TestFieldOrder(t *testing.T) {
	less := new(big.Int).Exp(prime(), big.NewInt(6), nil)
	less.Sub(less, big.NewInt(1))
	for _, x := range few(10, 29, 10) {
		a, power := elem(t, x), fp6.One()
		for n := less.BitLen() - 1; n >= 0; n-- {
			power = power.Square()
			if less.Bit(n) == 1 {
				power = power.Mul(a)
			}
		}
		if !power.Mul(a).Equal(a) || !x.isZero() && !power.Equal(fp6.One()) {
			t.Fatalf("P6.2: %v to the power of p^6 - 1: %v", x, of(power))
		}
	}
}

func BenchmarkMul(b *testing.B) {
	x := bench()
	for b.Loop() {
		x = x.Mul(x)
	}
}

func BenchmarkSquare(b *testing.B) {
	x := bench()
	for b.Loop() {
		x = x.Square()
	}
}

func BenchmarkScale(b *testing.B) {
	x := bench()
	for b.Loop() {
		x = x.Scale(x.C1)
	}
}

func BenchmarkInv(b *testing.B) {
	x := bench()
	for b.Loop() {
		x = x.Inv()
	}
}

// bench tells an element of which no part is small.
func bench() fp6.Elem {
	c := fp2.Elem{C0: fp.Of(3).Inv(), C1: fp.Of(5).Inv()}
	return fp6.Elem{C0: c, C1: c.Xi(), C2: c.Square()}
}
