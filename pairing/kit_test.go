package pairing_test

import (
	"math/big"
	"math/rand"
	"testing"

	"pharos/fp"
	"pharos/fp12"
	"pharos/fp2"
	"pharos/g1"
	"pharos/g2"
	"pharos/miller"
	"pharos/pairing"
)

// times1, times2 tell so many times the generator: those below 0 of the negative.
func times1(n int64) g1.Point {
	if n < 0 {
		return times1(-n).Neg()
	}
	return g1.Generator().Mul(big.NewInt(n).Bytes())
}

func times2(n int64) g2.Point {
	if n < 0 {
		return times2(-n).Neg()
	}
	return g2.Generator().Mul(big.NewInt(n).Bytes())
}

// scalar tells a number from 1 up to r - 1.
func scalar(r *rand.Rand) *big.Int {
	out := new(big.Int).Rand(r, new(big.Int).Sub(order(), big.NewInt(1)))
	return out.Add(out, big.NewInt(1))
}

// some1, some2 tell some point of the group, never the infinite one.
func some1(r *rand.Rand) g1.Point { return g1.Generator().Mul(scalar(r).Bytes()) }

func some2(r *rand.Rand) g2.Point { return g2.Generator().Mul(scalar(r).Bytes()) }

// somePairs tells so many pairs of points of the groups, none infinite.
func somePairs(r *rand.Rand, count int) []miller.Pair {
	var out []miller.Pair
	for range count {
		out = append(out, miller.Pair{P: some1(r), Q: some2(r)})
	}
	return out
}

// generators tells the pair of both generators.
func generators() miller.Pair {
	return miller.Pair{P: g1.Generator(), Q: g2.Generator()}
}

// infinite tells pairs of which one point is infinite at least, by whatever sums.
func infinite(r *rand.Rand) []miller.Pair {
	p, q := some1(r), some2(r)
	return []miller.Pair{
		{},
		{P: p},
		{Q: q},
		{P: g1.Generator(), Q: g2.Infinity()},
		{P: g1.Infinity(), Q: g2.Generator()},
		{P: p.Add(p.Neg()), Q: q},
		{P: p, Q: q.Mul(order().Bytes())},
		{P: p.Mul(order().Bytes()), Q: q.Add(q.Neg())},
	}
}

// outside1, outside2 tell a point of the curve that isn't of the group.
func outside1(t testing.TB) g1.Point {
	t.Helper()
	for n := uint64(1); ; n++ {
		if p, ok := g1.Lift(fp.Of(n), true); ok && !p.InGroup() {
			return p
		}
	}
}

func outside2(t testing.TB) g2.Point {
	t.Helper()
	for n := uint64(1); ; n++ {
		if q, ok := g2.Lift(fp2.Elem{C0: fp.Of(n), C1: fp.Of(1)}, true); ok && !q.InGroup() {
			return q
		}
	}
}

// value tells chapter 11's value of a pair, by Line and the points' own sums.
func value(p g1.Point, q g2.Point) fp12.Elem {
	x, y, ok := p.XY()
	if !ok || q.IsInfinity() {
		return fp12.One()
	}
	f, r := fp12.One(), q
	for set := range miller.Digits() {
		touching, _ := miller.Line(r, r, x, y)
		f, r = f.Mul(f).Mul(touching), r.Double()
		if set {
			through, _ := miller.Line(r, q, x, y)
			f, r = f.Mul(through), r.Add(q)
		}
	}
	return f.Conj()
}

// product tells the product of the pairs' pairings, each by itself.
func product(l []miller.Pair) fp12.Elem {
	out := fp12.One()
	for _, pair := range l {
		out = out.Mul(pairing.Pairing(pair.P, pair.Q))
	}
	return out
}
