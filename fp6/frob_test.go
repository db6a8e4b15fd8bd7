package fp6_test

import (
	"math"
	"testing"

	"pharos/fp"
	"pharos/fp2"
	"pharos/fp6"
)

// P6.1: Frob of 0 to 5 is to the power of p so many times over.
func TestFrob(t *testing.T) {
	for _, x := range few(11, 37, 15) {
		a, want := elem(t, x), x
		for n := range 6 {
			if !is(t, a.Frob(n), want) {
				t.Fatalf("P6.1: Frob(%d) of %v: %v, wanted %v", n, x, of(a.Frob(n)), want)
			}
			want = want.pow(prime())
		}
		if !want.equal(x) {
			t.Fatalf("P6.2: %v to the power of p^6: %v", x, want)
		}
	}
}

// P6.1: Frob of any other number is that of its rest by 6, from 0 on.
func TestFrobTurns(t *testing.T) {
	for _, x := range few(12, 41, 5) {
		a := elem(t, x)
		for n := -50; n <= 50; n++ {
			rest := n
			for rest < 0 {
				rest += 6
			}
			for rest > 5 {
				rest -= 6
			}
			if !a.Frob(n).Equal(a.Frob(rest)) {
				t.Fatalf("P6.1: Frob(%d) of %v: %v", n, x, of(a.Frob(n)))
			}
		}
		for _, c := range []struct{ n, rest int }{
			{math.MaxInt, 1}, {math.MaxInt - 1, 0}, {math.MaxInt - 2, 5},
			{math.MinInt, 4}, {math.MinInt + 1, 5}, {math.MinInt + 2, 0},
			{math.MaxInt32, 1}, {math.MinInt32, 4}, {1 << 62, 4}, {-1 << 62, 2},
		} {
			if !a.Frob(c.n).Equal(a.Frob(c.rest)) {
				t.Fatalf("P6.1: Frob(%d) of %v isn't Frob(%d)", c.n, x, c.rest)
			}
		}
	}
}

// P6.1: the powers of i and of v, written out.
func TestFrobWrittenOut(t *testing.T) {
	i, v := fp6.Elem{C0: fp2.Elem{C1: fp.Of(1)}}, fp6.Elem{C1: fp2.One()}
	for n, c := range []struct {
		got  fp6.Elem
		want whole
	}{
		{i.Frob(1), small(0, -1)},
		{i.Frob(2), small(0, 1)},
		{i.Frob(-1), small(0, -1)},
		{v.Frob(3), small(0, 0, 0, 1)},                          // 1 + i to the power of (p^3 - 1)/3 is i
		{v.V().Frob(3), small(0, 0, 0, 0, -1)},                  // i i v v
		{v.Frob(1).Mul(v.Frob(1)).Mul(v.Frob(1)), small(1, -1)}, // of v v v: 1 - i
		{v.Add(v.Frob(2)).Add(v.Frob(4)), small()},              // the three third roots of 1 + i
		{v.Mul(v.Frob(2)).Mul(v.Frob(4)), small(1, 1)},          // their product
		{fp6.One().Frob(5), small(1)},
		{elem(t, small(7)).Frob(1), small(7)},
	} {
		if !is(t, c.got, c.want) {
			t.Errorf("P6.1: line %d: %v, wanted %v", n, of(c.got), c.want)
		}
	}
	if v.Frob(1).Equal(v) || v.Frob(2).Equal(v) || v.Frob(2).Equal(v.Frob(4)) {
		t.Error("P6.1: Frob of v")
	}
}

// P6.1, P6.2: Frob goes over into sums, products and inverses, and two of them are one of the sum.
func TestFrobLaws(t *testing.T) {
	for k, c := range pairs(13, 200) {
		a, b := elem(t, c[0]), elem(t, c[1])
		m, n := k%6, k/6%6
		if !a.Add(b).Frob(n).Equal(a.Frob(n).Add(b.Frob(n))) || !a.Mul(b).Frob(n).Equal(a.Frob(n).Mul(b.Frob(n))) {
			t.Fatalf("P6.2: Frob(%d) of %v and %v", n, c[0], c[1])
		}
		if !a.Frob(m).Frob(n).Equal(a.Frob(m + n)) {
			t.Fatalf("P6.1: Frob(%d) of Frob(%d) of %v", n, m, c[0])
		}
		if k%8 == 0 && !a.Inv().Frob(n).Equal(a.Frob(n).Inv()) {
			t.Fatalf("P6.2: Frob(%d) of the inverse of %v", n, c[0])
		}
	}
}

func BenchmarkFrob(b *testing.B) {
	x := bench()
	for b.Loop() {
		x = x.Frob(1)
	}
}
