package miller_test

import (
	"math/big"
	"math/rand"
	"slices"
	"testing"

	"pharos/fp"
	"pharos/fp12"
	"pharos/fp2"
	"pharos/fp6"
	"pharos/g1"
	"pharos/g2"
	"pharos/miller"
)

// number tells an element's number.
func number(x fp.Elem) *big.Int {
	raw := x.Bytes()
	return new(big.Int).SetBytes(raw[:])
}

// elem tells the element of a number below p.
func elem(t testing.TB, x *big.Int) fp.Elem {
	t.Helper()
	out, ok := fp.From(x.FillBytes(make([]byte, 48)))
	if !ok {
		t.Fatalf("P3.1: From of %x", x)
	}
	return out
}

// elem2 tells the element of two numbers.
func elem2(t testing.TB, x two) fp2.Elem {
	t.Helper()
	return fp2.Elem{C0: elem(t, x.a), C1: elem(t, x.b)}
}

// elem12 tells the element of a row.
func elem12(t testing.TB, r row) fp12.Elem {
	t.Helper()
	parts := [6]fp2.Elem{}
	for k := range parts {
		parts[k] = elem2(t, r.part(k))
	}
	return fp12.Elem{
		C0: fp6.Elem{C0: parts[0], C1: parts[2], C2: parts[4]},
		C1: fp6.Elem{C0: parts[1], C1: parts[3], C2: parts[5]},
	}
}

// numbers2 tells the numbers of an element.
func numbers2(x fp2.Elem) two { return two{number(x.C0), number(x.C1)} }

// spotOf tells the numbers of a point.
func spotOf(q g2.Point) spot {
	x, y, ok := q.XY()
	if !ok {
		return spot{}
	}
	return spot{numbers2(x), numbers2(y)}
}

// times1, times2 tell so many times the generator: those below 0 of the negative.
func times1(n int64) g1.Point {
	if n < 0 {
		return times1(-n).Neg()
	}
	return g1.Generator().Mul(big.NewInt(n).Bytes())
}

func times2(n int64) g2.Point {
	if n < 0 {
		return times2(-n).Neg()
	}
	return g2.Generator().Mul(big.NewInt(n).Bytes())
}

// some1, some2 tell some point of the group, and in that some sum of others.
func some1(r *rand.Rand) g1.Point { return g1.Generator().Mul(scalar(r).Bytes()) }

func some2(r *rand.Rand) g2.Point { return g2.Generator().Mul(scalar(r).Bytes()) }

// scalar tells a number from 1 up to r - 1.
func scalar(r *rand.Rand) *big.Int {
	out := new(big.Int).Rand(r, new(big.Int).Sub(order(), big.NewInt(1)))
	return out.Add(out, big.NewInt(1))
}

// anywhere1, anywhere2 tell some point of the curve, hardly one of the group.
func anywhere1(t testing.TB, r *rand.Rand) g1.Point {
	t.Helper()
	for {
		if p, ok := g1.Lift(elem(t, new(big.Int).Rand(r, prime())), r.Intn(2) == 1); ok {
			return p
		}
	}
}

func anywhere2(t testing.TB, r *rand.Rand) g2.Point {
	t.Helper()
	for {
		x := two{new(big.Int).Rand(r, prime()), new(big.Int).Rand(r, prime())}
		if q, ok := g2.Lift(elem2(t, x), r.Intn(2) == 1); ok {
			return q
		}
	}
}

// ofOrder1, ofOrder2 tell a point that is the infinite one n times, n a prime that divides the number
// of points, and not fewer times.
func ofOrder1(t testing.TB, r *rand.Rand, n int64) g1.Point {
	t.Helper()
	return descend(n, rest(count1(), n), func() g1.Point { return anywhere1(t, r) })
}

func ofOrder2(t testing.TB, r *rand.Rand, n int64) g2.Point {
	t.Helper()
	return descend(n, rest(count2(), n), func() g2.Point { return anywhere2(t, r) })
}

// rest tells a number of points without the primes n in it.
func rest(count *big.Int, n int64) []byte {
	for {
		next, left := new(big.Int).DivMod(count, big.NewInt(n), new(big.Int))
		if left.Sign() != 0 {
			return count.Bytes()
		}
		count = next
	}
}

// descend tells a point of order n by those that pick tells, cleared of the other primes by rest.
func descend[P interface {
	IsInfinity() bool
	Mul([]byte) P
}](n int64, rest []byte, pick func() P) P {
	for {
		for a := pick().Mul(rest); !a.IsInfinity(); {
			next := a.Mul(big.NewInt(n).Bytes())
			if next.IsInfinity() {
				return a
			}
			a = next
		}
	}
}

// group1, group2 tell points of the groups: the infinite one, the generator's first few and last few
// times, and so many others.
func group1(r *rand.Rand, count int) []g1.Point {
	out := []g1.Point{{}, g1.Generator()}
	for _, n := range []int64{2, 3, -1, -2} {
		out = append(out, times1(n))
	}
	for range count {
		out = append(out, some1(r))
	}
	return out
}

func group2(r *rand.Rand, count int) []g2.Point {
	out := []g2.Point{{}, g2.Generator()}
	for _, n := range []int64{2, 3, -1, -2} {
		out = append(out, times2(n))
	}
	for range count {
		out = append(out, some2(r))
	}
	return out
}

// somePairs tells so many pairs of points of the groups, none infinite.
func somePairs(r *rand.Rand, count int) []miller.Pair {
	var out []miller.Pair
	for range count {
		out = append(out, miller.Pair{P: some1(r), Q: some2(r)})
	}
	return out
}

// modelOf tells the product of the pairs' values, by big numbers.
func modelOf(t testing.TB, l []miller.Pair) fp12.Elem {
	t.Helper()
	out := rowOf(small(1, 0))
	for _, pair := range l {
		x, y, ok := pair.P.XY()
		if ok && !pair.Q.IsInfinity() {
			out = out.mul(value(number(x), number(y), spotOf(pair.Q)))
		}
	}
	return elem12(t, out)
}

// final tells chapter 12's power of an element, 3 (p^12 - 1)/r, by that number's factors p^6 - 1,
// p^2 + 1 and the rest.
func final(f fp12.Elem) fp12.Elem {
	f = f.Frob(6).Mul(f.Inv())
	f = f.Frob(2).Mul(f)
	return f.Pow(lastPower().Bytes())
}

// alike tells whether elements but 0 are one, but for an element whose power is 1.
func alike(a, b fp12.Elem) bool {
	return !a.IsZero() && !b.IsZero() && final(a.Mul(b.Inv())).Equal(fp12.One())
}

// same tells whether lists have the same points, made by the same calls.
func same(a, b []miller.Pair) bool { return slices.Equal(a, b) }
