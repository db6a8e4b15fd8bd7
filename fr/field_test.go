package fr_test

import (
	"math/big"
	"math/rand"
	"testing"

	"pharos/fr"
)

// P4.1: sums, differences and products are those of numbers modulo r.
func TestSumsAndProducts(t *testing.T) {
	for _, c := range pairs(8, 3000) {
		x, y := c[0], c[1]
		a, b := elem(t, x), elem(t, y)
		if !is(t, a.Add(b), new(big.Int).Add(x, y)) {
			t.Fatalf("P4.1: %x plus %x: %x", x, y, a.Add(b).Bytes())
		}
		if !is(t, a.Sub(b), new(big.Int).Sub(x, y)) {
			t.Fatalf("P4.1: %x less %x: %x", x, y, a.Sub(b).Bytes())
		}
		if !is(t, a.Mul(b), new(big.Int).Mul(x, y)) {
			t.Fatalf("P4.1: %x times %x: %x", x, y, a.Mul(b).Bytes())
		}
	}
}

// P4.1: Neg and Inv are those of numbers modulo r.
func TestOfOne(t *testing.T) {
	for _, x := range numbers(9, 500) {
		a := elem(t, x)
		if !is(t, a.Neg(), new(big.Int).Neg(x)) {
			t.Fatalf("P4.1: Neg of %x: %x", x, a.Neg().Bytes())
		}
		inverse := new(big.Int)
		if x.Sign() != 0 {
			inverse.ModInverse(x, order())
		}
		if !is(t, a.Inv(), inverse) {
			t.Fatalf("P4.1: Inv of %x: %x", x, a.Inv().Bytes())
		}
	}
}

// P4.1: the chapter's example, and sums and products about r, written out.
func TestWrittenOut(t *testing.T) {
	one, two, most := fr.Of(1), fr.Of(2), elem(t, from(1, 0, -1))
	for i, c := range []struct {
		got  fr.Elem
		want *big.Int
	}{
		{two.Inv().Add(two.Inv()), big.NewInt(1)},
		{two.Inv(), from(1, 1, 1)}, // (r + 1)/2
		{one.Neg(), from(1, 0, -1)},
		{most.Neg(), big.NewInt(1)},
		{most.Add(one), big.NewInt(0)},
		{most.Add(two), big.NewInt(1)},
		{most.Add(most), from(1, 0, -2)},
		{one.Sub(two), from(1, 0, -1)},
		{fr.Of(0).Sub(most), big.NewInt(1)},
		{most.Mul(most), big.NewInt(1)},
		{most.Mul(two), from(1, 0, -2)},
		{most.Inv(), from(1, 0, -1)},
		{one.Inv(), big.NewInt(1)},
		{fr.Of(0).Inv(), big.NewInt(0)},
		{fr.Of(1<<64 - 1).Add(one), power(64)},
		{fr.Of(1 << 32).Mul(fr.Of(1 << 32)), power(64)},
	} {
		if !is(t, c.got, c.want) {
			t.Errorf("P4.1: line %d: %x, wanted %x", i, c.got.Bytes(), c.want)
		}
	}
}

// P4.2: sums and products in any order and grouping, and spread over one another.
func TestFieldLaws(t *testing.T) {
	r := rand.New(rand.NewSource(10))
	for _, c := range pairs(11, 2000) {
		a, b, d := elem(t, c[0]), elem(t, c[1]), elem(t, new(big.Int).Rand(r, order()))
		if r.Intn(2) == 0 {
			d = elem(t, edges()[r.Intn(len(edges()))])
		}
		if !a.Add(b).Equal(b.Add(a)) || !a.Mul(b).Equal(b.Mul(a)) {
			t.Fatalf("P4.2: order of %x and %x", c[0], c[1])
		}
		if !a.Add(b).Add(d).Equal(a.Add(b.Add(d))) || !a.Mul(b).Mul(d).Equal(a.Mul(b.Mul(d))) {
			t.Fatalf("P4.2: grouping of %x, %x and %x", c[0], c[1], d.Bytes())
		}
		if !a.Add(b).Mul(d).Equal(a.Mul(d).Add(b.Mul(d))) || !a.Sub(b).Mul(d).Equal(a.Mul(d).Sub(b.Mul(d))) {
			t.Fatalf("P4.2: spreading of %x, %x and %x", c[0], c[1], d.Bytes())
		}
		if !a.Sub(b).Add(b).Equal(a) || !a.Sub(b).Equal(a.Add(b.Neg())) || !a.Sub(b).Equal(b.Sub(a).Neg()) {
			t.Fatalf("P4.2: difference of %x and %x", c[0], c[1])
		}
		if a.Mul(b).IsZero() != (a.IsZero() || b.IsZero()) {
			t.Fatalf("P4.2: %x times %x", c[0], c[1])
		}
	}
}

// P4.2: 0 and 1 change nothing, each has a negative, and each but 0 an inverse.
func TestFieldInverses(t *testing.T) {
	for _, x := range numbers(12, 500) {
		a := elem(t, x)
		if !a.Add(fr.Of(0)).Equal(a) || !a.Mul(fr.Of(1)).Equal(a) || !a.Mul(fr.Of(0)).IsZero() {
			t.Fatalf("P4.2: %x with 0 and 1", x)
		}
		if !a.Add(a.Neg()).IsZero() || !a.Neg().Neg().Equal(a) || !a.Mul(fr.Of(1).Neg()).Equal(a.Neg()) {
			t.Fatalf("P4.2: the negative of %x", x)
		}
		if !a.Inv().Inv().Equal(a) || !a.IsZero() && !a.Mul(a.Inv()).Equal(fr.Of(1)) {
			t.Fatalf("P4.2: the inverse of %x", x)
		}
	}
}

func BenchmarkMul(b *testing.B) {
	x := fr.Of(1).Neg().Sub(fr.Of(5))
	for b.Loop() {
		x = x.Mul(x)
	}
}

func BenchmarkInv(b *testing.B) {
	x := fr.Of(1).Neg().Sub(fr.Of(5))
	for b.Loop() {
		x = x.Inv()
	}
}
