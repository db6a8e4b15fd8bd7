package fp2_test

import (
	"bytes"
	"math/big"
	"math/rand"
	"testing"

	"pharos/fp"
	"pharos/fp2"
)

// P5.1: sums, differences and products are those of pairs of numbers modulo p.
func TestSumsAndProducts(t *testing.T) {
	for _, c := range pairs(4, 2000) {
		x, y := c[0], c[1]
		a, b := elem(t, x), elem(t, y)
		if !is(t, a.Add(b), x.add(y)) {
			t.Fatalf("P5.1: %v plus %v: %v", x, y, of(a.Add(b)))
		}
		if !is(t, a.Sub(b), x.sub(y)) {
			t.Fatalf("P5.1: %v less %v: %v", x, y, of(a.Sub(b)))
		}
		if !is(t, a.Mul(b), x.mul(y)) {
			t.Fatalf("P5.1: %v times %v: %v", x, y, of(a.Mul(b)))
		}
		if !is(t, a.Scale(b.C0), x.mul(whole{y.x, new(big.Int)})) {
			t.Fatalf("P5.1: %v by %x: %v", x, y.x, of(a.Scale(b.C0)))
		}
	}
}

// P5.1: Neg, Conj, Square and Xi are those of pairs of numbers modulo p.
func TestOfOne(t *testing.T) {
	for _, x := range numbers(5, 1000) {
		a := elem(t, x)
		if !is(t, a.Neg(), small(0, 0).sub(x)) {
			t.Fatalf("P5.1: Neg of %v: %v", x, of(a.Neg()))
		}
		if !is(t, a.Conj(), whole{x.x, new(big.Int).Neg(x.y)}.mod()) {
			t.Fatalf("P5.1: Conj of %v: %v", x, of(a.Conj()))
		}
		if !is(t, a.Square(), x.mul(x)) {
			t.Fatalf("P5.1: Square of %v: %v", x, of(a.Square()))
		}
		if !is(t, a.Xi(), x.mul(small(1, 1))) {
			t.Fatalf("P5.1: Xi of %v: %v", x, of(a.Xi()))
		}
	}
}

// P5.1: the inverse is the one by which the numbers' product is 1; of 0 it is 0.
func TestInv(t *testing.T) {
	for _, x := range numbers(6, 200) {
		got := of(elem(t, x).Inv())
		if x.isZero() && !got.isZero() || !x.isZero() && !x.mul(got).equal(small(1, 0)) {
			t.Fatalf("P5.1: Inv of %v: %v", x, got)
		}
	}
}

// P5.1: the chapter's example, and other sums and products, written out.
func TestWrittenOut(t *testing.T) {
	one, i, a := fp2.One(), fp2.Elem{C1: fp.Of(1)}, elem(t, small(2, 3))
	for n, c := range []struct {
		got  fp2.Elem
		want whole
	}{
		{i.Mul(i), whole{from(0, -1), big.NewInt(0)}},
		{i.Square(), whole{from(0, -1), big.NewInt(0)}},
		{i.Neg().Square(), whole{from(0, -1), big.NewInt(0)}},
		{i.Inv(), whole{big.NewInt(0), from(0, -1)}},
		{i.Conj(), whole{big.NewInt(0), from(0, -1)}},
		{i.Xi(), whole{from(0, -1), big.NewInt(1)}},
		{i.Pow([]byte{2}), whole{from(0, -1), big.NewInt(0)}},
		{i.Pow([]byte{3}), whole{big.NewInt(0), from(0, -1)}},
		{i.Pow([]byte{4}), small(1, 0)},
		{i.Scale(fp.Of(9)), small(0, 9)},
		{one.Xi(), small(1, 1)},
		{one.Neg(), whole{from(0, -1), big.NewInt(0)}},
		{one.Inv(), small(1, 0)},
		{one.Conj(), small(1, 0)},
		{a.Conj(), whole{big.NewInt(2), from(0, -3)}},
		{a.Mul(a.Conj()), small(13, 0)},
		{a.Mul(elem(t, small(5, 7))), whole{from(0, -11), big.NewInt(29)}},
		{a.Square(), whole{from(0, -5), big.NewInt(12)}},
		{a.Xi(), whole{from(0, -1), big.NewInt(5)}},
		{a.Scale(fp.Of(4)), small(8, 12)},
		{a.Neg(), whole{from(0, -2), from(0, -3)}},
		{a.Add(one), small(3, 3)},
		{a.Sub(i), small(2, 2)},
		{elem(t, whole{from(0, -1), from(0, -1)}).Add(elem(t, small(2, 1))), small(1, 0)},
		{elem(t, small(1, 1)).Inv(), whole{from(1, 1), from(1, 0)}}, // (1 - i)/2
		{fp2.Elem{}.Inv(), small(0, 0)},
	} {
		if !is(t, c.got, c.want) {
			t.Errorf("P5.1: line %d: %v, wanted %v", n, of(c.got), c.want)
		}
	}
}

// P5.1: Pow is that of pairs of numbers.
func TestPow(t *testing.T) {
	r := rand.New(rand.NewSource(7))
	for _, x := range numbers(8, 100) {
		e := make([]byte, r.Intn(60))
		r.Read(e)
		if got := elem(t, x).Pow(e); !is(t, got, x.pow(new(big.Int).SetBytes(e))) {
			t.Fatalf("P5.1: %v to the power of %x: %v", x, e, of(got))
		}
	}
	for n := range 110 {
		for _, e := range [][]byte{bytes.Repeat([]byte{0xff}, n), append([]byte{0x80}, make([]byte, n)...)} {
			if got := elem(t, small(5, 2)).Pow(e); !is(t, got, small(5, 2).pow(new(big.Int).SetBytes(e))) {
				t.Fatalf("P5.1: 5 + 2 i to the power of %x: %v", e, of(got))
			}
		}
	}
}

// P5.1: small powers, of which each is the last one times the element.
func TestPowSmall(t *testing.T) {
	for _, a := range []fp2.Elem{{}, fp2.One(), fp2.One().Neg(), elem(t, small(0, 1)), elem(t, small(1, 1)), elem(t, whole{from(2, 9), from(1, 3)})} {
		want := fp2.One()
		for n := range 600 {
			for _, e := range [][]byte{{byte(n >> 8), byte(n)}, {0, 0, 0, byte(n >> 8), byte(n)}} {
				if !a.Pow(e).Equal(want) {
					t.Fatalf("P5.1: %v to the power of %d: %v", of(a), n, of(a.Pow(e)))
				}
			}
			if n < 256 && !a.Pow([]byte{byte(n)}).Equal(want) {
				t.Fatalf("P5.1: %v to the power of one byte, %d", of(a), n)
			}
			want = want.Mul(a)
		}
	}
}

// P5.1: to the power of 0 all are 1, be it written by no bytes or by noughts.
func TestPowZero(t *testing.T) {
	for _, x := range edges() {
		for _, e := range [][]byte{nil, {}, {0}, {0, 0}, make([]byte, 100)} {
			if got := elem(t, x).Pow(e); !is(t, got, small(1, 0)) {
				t.Errorf("P5.1: %v to the power of %d noughts: %v", x, len(e), of(got))
			}
		}
	}
}

// P5.3: to the power of p each is its Conj, to that of p^2 itself, and to that of p^2 - 1 each
// but 0 is 1.
func TestPowPrime(t *testing.T) {
	square := new(big.Int).Mul(prime(), prime())
	less := new(big.Int).Sub(square, big.NewInt(1))
	for _, x := range numbers(9, 30) {
		a := elem(t, x)
		if !a.Pow(prime().Bytes()).Equal(a.Conj()) {
			t.Errorf("P5.3: %v to the power of p", x)
		}
		if !a.Pow(square.Bytes()).Equal(a) {
			t.Errorf("P5.3: %v to the power of p^2", x)
		}
		if !x.isZero() && !a.Pow(less.Bytes()).Equal(fp2.One()) {
			t.Errorf("P5.3: %v to the power of p^2 - 1", x)
		}
	}
}

// P5.3: sums and products in any order and grouping, and spread over one another.
func TestFieldLaws(t *testing.T) {
	others := numbers(10, 2000)
	for i, c := range pairs(11, 1500) {
		a, b, d := elem(t, c[0]), elem(t, c[1]), elem(t, others[i%len(others)])
		if !a.Add(b).Equal(b.Add(a)) || !a.Mul(b).Equal(b.Mul(a)) {
			t.Fatalf("P5.3: order of %v and %v", c[0], c[1])
		}
		if !a.Add(b).Add(d).Equal(a.Add(b.Add(d))) || !a.Mul(b).Mul(d).Equal(a.Mul(b.Mul(d))) {
			t.Fatalf("P5.3: grouping of %v, %v and %v", c[0], c[1], of(d))
		}
		if !a.Add(b).Mul(d).Equal(a.Mul(d).Add(b.Mul(d))) || !a.Sub(b).Mul(d).Equal(a.Mul(d).Sub(b.Mul(d))) {
			t.Fatalf("P5.3: spreading of %v, %v and %v", c[0], c[1], of(d))
		}
		if !a.Sub(b).Add(b).Equal(a) || !a.Sub(b).Equal(a.Add(b.Neg())) || !a.Sub(b).Equal(b.Sub(a).Neg()) {
			t.Fatalf("P5.3: difference of %v and %v", c[0], c[1])
		}
		if a.Mul(b).IsZero() != (a.IsZero() || b.IsZero()) {
			t.Fatalf("P5.3: %v times %v", c[0], c[1])
		}
		if !a.Mul(b).Conj().Equal(a.Conj().Mul(b.Conj())) || !a.Add(b).Conj().Equal(a.Conj().Add(b.Conj())) {
			t.Fatalf("P5.3: Conj of %v and %v", c[0], c[1])
		}
	}
}

// P5.3: each has a negative, and each but 0 an inverse.
func TestFieldInverses(t *testing.T) {
	for _, x := range numbers(12, 200) {
		a := elem(t, x)
		if !a.Add(a.Neg()).IsZero() || !a.Neg().Neg().Equal(a) || !a.Conj().Conj().Equal(a) {
			t.Fatalf("P5.3: the negative of %v", x)
		}
		if !a.Inv().Inv().Equal(a) || !a.IsZero() && !a.Mul(a.Inv()).Equal(fp2.One()) {
			t.Fatalf("P5.3: the inverse of %v", x)
		}
		if !a.Square().Equal(a.Mul(a)) || !a.Neg().Square().Equal(a.Square()) {
			t.Fatalf("P5.3: the square of %v", x)
		}
	}
}

func BenchmarkMul(b *testing.B) {
	x := fp2.Elem{C0: fp.Of(3).Inv(), C1: fp.Of(5).Neg()}
	for b.Loop() {
		x = x.Mul(x)
	}
}

func BenchmarkSquare(b *testing.B) {
	x := fp2.Elem{C0: fp.Of(3).Inv(), C1: fp.Of(5).Neg()}
	for b.Loop() {
		x = x.Square()
	}
}

func BenchmarkInv(b *testing.B) {
	x := fp2.Elem{C0: fp.Of(3).Inv(), C1: fp.Of(5).Neg()}
	for b.Loop() {
		x = x.Inv()
	}
}
