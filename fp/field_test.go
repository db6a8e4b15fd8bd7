package fp_test

import (
	"bytes"
	"math/big"
	"math/rand"
	"testing"

	"pharos/fp"
)

// P3.2: sums, differences and products are those of numbers modulo p.
func TestSumsAndProducts(t *testing.T) {
	for _, c := range pairs(9, 3000) {
		x, y := c[0], c[1]
		a, b := elem(t, x), elem(t, y)
		if !is(t, a.Add(b), new(big.Int).Add(x, y)) {
			t.Fatalf("P3.2: %x plus %x: %x", x, y, a.Add(b).Bytes())
		}
		if !is(t, a.Sub(b), new(big.Int).Sub(x, y)) {
			t.Fatalf("P3.2: %x less %x: %x", x, y, a.Sub(b).Bytes())
		}
		if !is(t, a.Mul(b), new(big.Int).Mul(x, y)) {
			t.Fatalf("P3.2: %x times %x: %x", x, y, a.Mul(b).Bytes())
		}
	}
}

// P3.2: Neg, Square and Inv are those of numbers modulo p.
func TestOfOne(t *testing.T) {
	for _, x := range numbers(10, 500) {
		a := elem(t, x)
		if !is(t, a.Neg(), new(big.Int).Neg(x)) {
			t.Fatalf("P3.2: Neg of %x: %x", x, a.Neg().Bytes())
		}
		if !is(t, a.Square(), new(big.Int).Mul(x, x)) {
			t.Fatalf("P3.2: Square of %x: %x", x, a.Square().Bytes())
		}
		inverse := new(big.Int)
		if x.Sign() != 0 {
			inverse.ModInverse(x, prime())
		}
		if !is(t, a.Inv(), inverse) {
			t.Fatalf("P3.2: Inv of %x: %x", x, a.Inv().Bytes())
		}
	}
}

// P3.2: the chapter's example, and sums and products about p, written out.
func TestWrittenOut(t *testing.T) {
	one, two, most := fp.Of(1), fp.Of(2), elem(t, from(1, 0, -1))
	for i, c := range []struct {
		got  fp.Elem
		want *big.Int
	}{
		{one.Neg(), from(1, 0, -1)},
		{most.Neg(), big.NewInt(1)},
		{most.Add(one), big.NewInt(0)},
		{most.Add(two), big.NewInt(1)},
		{most.Add(most), from(1, 0, -2)},
		{one.Sub(two), from(1, 0, -1)},
		{fp.Of(0).Sub(most), big.NewInt(1)},
		{most.Mul(most), big.NewInt(1)},
		{most.Mul(two), from(1, 0, -2)},
		{most.Inv(), from(1, 0, -1)},
		{two.Inv(), from(1, 1, 1)}, // (p + 1)/2
		{one.Inv(), big.NewInt(1)},
		{fp.Of(0).Inv(), big.NewInt(0)},
		{fp.Of(1<<64 - 1).Add(one), power(64)},
		{fp.Of(1 << 32).Mul(fp.Of(1 << 32)), power(64)},
	} {
		if !is(t, c.got, c.want) {
			t.Errorf("P3.2: line %d: %x, wanted %x", i, c.got.Bytes(), c.want)
		}
	}
}

// P3.2: Pow at every length of its bytes.
func TestPow(t *testing.T) {
	r := rand.New(rand.NewSource(11))
	for _, x := range numbers(12, 200) {
		e := make([]byte, r.Intn(70))
		r.Read(e)
		want := new(big.Int).Exp(x, new(big.Int).SetBytes(e), prime())
		if got := elem(t, x).Pow(e); !is(t, got, want) {
			t.Fatalf("P3.2: %x to the power of %x: %x", x, e, got.Bytes())
		}
	}
	for n := range 130 {
		for _, e := range [][]byte{bytes.Repeat([]byte{0xff}, n), append([]byte{0x80}, make([]byte, n)...)} {
			want := new(big.Int).Exp(big.NewInt(5), new(big.Int).SetBytes(e), prime())
			if got := fp.Of(5).Pow(e); !is(t, got, want) {
				t.Fatalf("P3.2: 5 to the power of %x: %x", e, got.Bytes())
			}
		}
	}
}

// P3.2: small powers, of which each is the last one times the element.
func TestPowSmall(t *testing.T) {
	for _, a := range []fp.Elem{fp.Of(0), fp.Of(1), fp.Of(3), fp.Of(1).Neg(), fp.Wide([]byte("any bytes at all, as long as they are many"))} {
		want := fp.Of(1)
		for n := range 1000 {
			for _, e := range [][]byte{{byte(n >> 8), byte(n)}, {0, 0, 0, byte(n >> 8), byte(n)}} {
				if !a.Pow(e).Equal(want) {
					t.Fatalf("P3.2: %x to the power of %d: %x", a.Bytes(), n, a.Pow(e).Bytes())
				}
			}
			if n < 256 && !a.Pow([]byte{byte(n)}).Equal(want) {
				t.Fatalf("P3.2: %x to the power of one byte, %d", a.Bytes(), n)
			}
			want = want.Mul(a)
		}
	}
}

// P3.2: to the power of 0 all are 1, be it written by no bytes or by noughts.
func TestPowZero(t *testing.T) {
	for _, x := range edges() {
		for _, e := range [][]byte{nil, {}, {0}, {0, 0}, make([]byte, 100)} {
			if got := elem(t, x).Pow(e); !is(t, got, big.NewInt(1)) {
				t.Errorf("P3.2: %x to the power of %d noughts: %x", x, len(e), got.Bytes())
			}
		}
	}
}

// P3.2: to the power of p each is itself, to that of p - 1 each but 0 is 1.
func TestPowPrime(t *testing.T) {
	for _, x := range numbers(13, 50) {
		a := elem(t, x)
		if !a.Pow(prime().Bytes()).Equal(a) {
			t.Errorf("P3.2: %x to the power of p", x)
		}
		if x.Sign() != 0 && !a.Pow(from(1, 0, -1).Bytes()).Equal(fp.Of(1)) {
			t.Errorf("P3.2: %x to the power of p - 1", x)
		}
	}
}

// P3.4: sums and products in any order and grouping, and spread over one another.
func TestFieldLaws(t *testing.T) {
	r := rand.New(rand.NewSource(14))
	for _, c := range pairs(15, 2000) {
		a, b, d := elem(t, c[0]), elem(t, c[1]), elem(t, new(big.Int).Rand(r, prime()))
		if r.Intn(2) == 0 {
			d = elem(t, edges()[r.Intn(len(edges()))])
		}
		if !a.Add(b).Equal(b.Add(a)) || !a.Mul(b).Equal(b.Mul(a)) {
			t.Fatalf("P3.4: order of %x and %x", c[0], c[1])
		}
		if !a.Add(b).Add(d).Equal(a.Add(b.Add(d))) || !a.Mul(b).Mul(d).Equal(a.Mul(b.Mul(d))) {
			t.Fatalf("P3.4: grouping of %x, %x and %x", c[0], c[1], d.Bytes())
		}
		if !a.Add(b).Mul(d).Equal(a.Mul(d).Add(b.Mul(d))) || !a.Sub(b).Mul(d).Equal(a.Mul(d).Sub(b.Mul(d))) {
			t.Fatalf("P3.4: spreading of %x, %x and %x", c[0], c[1], d.Bytes())
		}
		if !a.Sub(b).Add(b).Equal(a) || !a.Sub(b).Equal(a.Add(b.Neg())) || !a.Sub(b).Equal(b.Sub(a).Neg()) {
			t.Fatalf("P3.4: difference of %x and %x", c[0], c[1])
		}
		if a.Mul(b).IsZero() != (a.IsZero() || b.IsZero()) {
			t.Fatalf("P3.4: %x times %x", c[0], c[1])
		}
	}
}

// P3.4: 0 and 1 change nothing, each has a negative, and each but 0 an inverse.
func TestFieldInverses(t *testing.T) {
	for _, x := range numbers(16, 500) {
		a := elem(t, x)
		if !a.Add(fp.Of(0)).Equal(a) || !a.Mul(fp.Of(1)).Equal(a) || !a.Mul(fp.Of(0)).IsZero() {
			t.Fatalf("P3.4: %x with 0 and 1", x)
		}
		if !a.Add(a.Neg()).IsZero() || !a.Neg().Neg().Equal(a) {
			t.Fatalf("P3.4: the negative of %x", x)
		}
		if !a.Inv().Inv().Equal(a) || !a.IsZero() && !a.Mul(a.Inv()).Equal(fp.Of(1)) {
			t.Fatalf("P3.4: the inverse of %x", x)
		}
		if !a.Square().Equal(a.Mul(a)) || !a.Neg().Square().Equal(a.Square()) {
			t.Fatalf("P3.4: the square of %x", x)
		}
	}
}

func BenchmarkMul(b *testing.B) {
	x := fp.Of(1).Neg().Sub(fp.Of(5))
	for b.Loop() {
		x = x.Mul(x)
	}
}

func BenchmarkAdd(b *testing.B) {
	x := fp.Of(1).Neg().Sub(fp.Of(5))
	for b.Loop() {
		x = x.Add(x)
	}
}

func BenchmarkInv(b *testing.B) {
	x := fp.Of(1).Neg().Sub(fp.Of(5))
	for b.Loop() {
		x = x.Inv()
	}
}
