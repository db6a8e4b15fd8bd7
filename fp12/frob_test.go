package fp12_test

import (
	"math"
	"testing"

	"pharos/fp"
	"pharos/fp12"
	"pharos/fp2"
	"pharos/fp6"
)

// P7.1: Frob of 0 to 11 is to the power of p so many times over.
func TestFrob(t *testing.T) {
	for _, x := range []whole{small(0, 0, 1), small(3, 1, 4, 1, 5, 9, 2, 6, 5, 3, 5, 8), others(24, 1)[0]} {
		a, want := elem(t, x), x
		for n := range 12 {
			if !is(t, a.Frob(n), want) {
				t.Fatalf("P7.1: Frob(%d) of %v: %v, wanted %v", n, x, of(a.Frob(n)), want)
			}
			want = want.pow(prime())
		}
		if !want.equal(x) {
			t.Fatalf("P7.2: %v to the power of p^12: %v", x, want)
		}
	}
}

// P7.1: Frob of 0 to 11 is Pow of p so many times over.
func TestFrobAsPow(t *testing.T) {
	for _, x := range few(25, 61, 3) {
		a := elem(t, x)
		want := a
		for n := range 12 {
			if !a.Frob(n).Equal(want) {
				t.Fatalf("P7.1: Frob(%d) of %v: %v, wanted %v", n, x, of(a.Frob(n)), of(want))
			}
			want = want.Pow(prime().Bytes())
		}
	}
}

// P7.2: Conj is Frob(6).
func TestFrobAsConj(t *testing.T) {
	for _, x := range numbers(26, 100) {
		if a := elem(t, x); !a.Frob(6).Equal(a.Conj()) || !is(t, a.Frob(-6), x.conj()) || !is(t, a.Frob(0), x) {
			t.Fatalf("P7.2: Frob(6) of %v: %v", x, of(a.Frob(6)))
		}
	}
}

// P7.1: Frob of any other number is that of its rest by 12, from 0 on.
func TestFrobTurns(t *testing.T) {
	for _, x := range few(27, 41, 5) {
		a := elem(t, x)
		for n := -50; n <= 50; n++ {
			rest := n
			for rest < 0 {
				rest += 12
			}
			for rest > 11 {
				rest -= 12
			}
			if !a.Frob(n).Equal(a.Frob(rest)) {
				t.Fatalf("P7.1: Frob(%d) of %v: %v", n, x, of(a.Frob(n)))
			}
		}
		for _, c := range []struct{ n, rest int }{
			{math.MaxInt, 7}, {math.MaxInt - 7, 0}, {math.MaxInt - 8, 11},
			{math.MinInt, 4}, {math.MinInt + 1, 5}, {math.MinInt + 8, 0},
			{math.MaxInt32, 7}, {math.MinInt32, 4}, {1 << 62, 4}, {-1 << 62, 8},
		} {
			if !a.Frob(c.n).Equal(a.Frob(c.rest)) {
				t.Fatalf("P7.1: Frob(%d) of %v isn't Frob(%d)", c.n, x, c.rest)
			}
		}
	}
}

// P7.1: the powers of i, v and w, written out.
func TestFrobWrittenOut(t *testing.T) {
	i := fp12.Elem{C0: fp6.Elem{C0: fp2.Elem{C1: fp.Of(1)}}}
	v, w := fp12.Elem{C0: fp6.One().V()}, fp12.Elem{C1: fp6.One()}
	all := fp12.One()
	for n := range 6 {
		all = all.Mul(w.Frob(2 * n))
	}
	for n, c := range []struct {
		got  fp12.Elem
		want whole
	}{
		{i.Frob(1), small(0, -1)},
		{i.Frob(2), small(0, 1)},
		{i.Frob(6), small(0, 1)},
		{i.Frob(-1), small(0, -1)},
		{v.Frob(3), small(0, 0, 0, 0, 0, 1)}, // 1 + i to the power of (p^3 - 1)/3 is i
		{v.Frob(6), small(0, 0, 0, 0, 1)},
		{w.Frob(6), small(0, 0, -1)},
		{w.Frob(12), small(0, 0, 1)},
		{w.Frob(3).Square(), small(0, 0, 0, 0, 0, 1)},
		{w.Frob(1).Pow([]byte{6}), small(1, -1)}, // of w to the 6: 1 - i
		{w.Frob(2).Pow([]byte{6}), small(1, 1)},
		{w.Add(w.Frob(4)).Add(w.Frob(8)), small()}, // w times the three third roots of 1
		{all, small(-1, -1)},                       // the six sixth roots of 1 + i: their product
		{fp12.One().Frob(5), small(1)},
		{elem(t, small(7)).Frob(1), small(7)},
	} {
		if !is(t, c.got, c.want) {
			t.Errorf("P7.1: line %d: %v, wanted %v", n, of(c.got), c.want)
		}
	}
	for n := 1; n < 12; n++ {
		if w.Frob(n).Equal(w) {
			t.Errorf("P7.1: Frob(%d) of w is w", n)
		}
	}
}

// P7.1: of an element of fp6 it is that of fp6.
func TestFrobOfFp6(t *testing.T) {
	for k, x := range numbers(28, 100) {
		c := elem(t, x).C0
		if got := (fp12.Elem{C0: c}).Frob(k % 12); !got.Equal(fp12.Elem{C0: c.Frob(k % 12)}) {
			t.Fatalf("P7.1: Frob(%d) of %v: %v", k%12, x, of(got))
		}
	}
}

// P7.1, P7.2: Frob goes over into sums, products and inverses, and two of them are one of the sum.
func TestFrobLaws(t *testing.T) {
	for k, c := range pairs(29, 200) {
		a, b := elem(t, c[0]), elem(t, c[1])
		m, n := k%12, k/12%12
		if !a.Add(b).Frob(n).Equal(a.Frob(n).Add(b.Frob(n))) || !a.Mul(b).Frob(n).Equal(a.Frob(n).Mul(b.Frob(n))) {
			t.Fatalf("P7.2: Frob(%d) of %v and %v", n, c[0], c[1])
		}
		if !a.Frob(m).Frob(n).Equal(a.Frob(m + n)) {
			t.Fatalf("P7.1: Frob(%d) of Frob(%d) of %v", n, m, c[0])
		}
		if k%8 == 0 && !a.Inv().Frob(n).Equal(a.Frob(n).Inv()) {
			t.Fatalf("P7.2: Frob(%d) of the inverse of %v", n, c[0])
		}
	}
}

func BenchmarkFrob(b *testing.B) {
	x := bench()
	for b.Loop() {
		x = x.Frob(1)
	}
}
