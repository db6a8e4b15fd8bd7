package swu_test

import (
	"fmt"
	"math/big"
	"math/rand"
	"testing"

	"pharos/fp"
	"pharos/fp2"
	"pharos/g2"
)

// hex tells the number of hexadecimal digits.
func hex(digits string) *big.Int {
	x, ok := new(big.Int).SetString(digits, 16)
	if !ok {
		panic(digits)
	}
	return x
}

// prime tells p.
func prime() *big.Int {
	return hex("1a0111ea397fe69a4b1ba7b6434bacd764774b84f38512bf6730d2a0f6b0f6241eabfffeb153ffffb9feffffffffaaab")
}

// pair: a + b i, of numbers below p.
type pair struct{ a, b *big.Int }

// String tells it as text.
func (x pair) String() string { return fmt.Sprintf("%x + %x i", x.a, x.b) }

// small tells a + b i, modulo p.
func small(a, b int64) pair { return pair{big.NewInt(a), big.NewInt(b)}.mod() }

// long tells a + b i, of numbers in hexadecimal digits.
func long(a, b string) pair { return pair{hex(a), hex(b)}.mod() }

func (x pair) mod() pair {
	return pair{new(big.Int).Mod(x.a, prime()), new(big.Int).Mod(x.b, prime())}
}

func (x pair) equal(y pair) bool { return x.a.Cmp(y.a) == 0 && x.b.Cmp(y.b) == 0 }

func (x pair) isZero() bool { return x.a.Sign() == 0 && x.b.Sign() == 0 }

func (x pair) add(y pair) pair {
	return pair{new(big.Int).Add(x.a, y.a), new(big.Int).Add(x.b, y.b)}.mod()
}

func (x pair) neg() pair {
	return pair{new(big.Int).Neg(x.a), new(big.Int).Neg(x.b)}.mod()
}

func (x pair) sub(y pair) pair { return x.add(y.neg()) }

// mul tells the product, by the four products of the parts.
func (x pair) mul(y pair) pair {
	aa, bb := new(big.Int).Mul(x.a, y.a), new(big.Int).Mul(x.b, y.b)
	ab, ba := new(big.Int).Mul(x.a, y.b), new(big.Int).Mul(x.b, y.a)
	return pair{aa.Sub(aa, bb), ab.Add(ab, ba)}.mod()
}

// length tells a a + b b.
func (x pair) length() *big.Int { return x.mul(pair{x.a, new(big.Int).Neg(x.b)}).a }

// over tells 1 over it.
func (x pair) over() pair {
	length := x.length()
	length.ModInverse(length, prime())
	return pair{new(big.Int).Mul(x.a, length), new(big.Int).Neg(new(big.Int).Mul(x.b, length))}.mod()
}

// roots tells the two roots, the one if it is 0, or none: a root c + d i has c c = (a + l)/2, l l
// being a a + b b, and 2 c d = b.
func (x pair) roots() []pair {
	if x.isZero() {
		return []pair{x}
	}
	p, length := prime(), x.length()
	if length.ModSqrt(length, p) == nil {
		return nil
	}
	half := new(big.Int).ModInverse(big.NewInt(2), p)
	for range 2 {
		length.Neg(length)
		c := new(big.Int).Add(x.a, length)
		if c.ModSqrt(c.Mul(c, half).Mod(c, p), p) == nil {
			continue
		}
		d := new(big.Int)
		if c.Sign() != 0 {
			d.ModInverse(d.Lsh(c, 1), p).Mul(d, x.b)
		} else if d.ModSqrt(d.Neg(x.a).Mod(d, p), p) == nil { // the root would be d i, with d d = -a
			continue
		}
		out := pair{c, d}.mod()
		return []pair{out, out.neg()}
	}
	return nil
}

// sgn tells sgn0 as RFC 9380 writes it: part by part.
func (x pair) sgn() int {
	var sign uint
	zero := uint(1)
	for _, n := range []*big.Int{x.a, x.b} {
		sign |= zero & n.Bit(0)
		if n.Sign() != 0 {
			zero = 0
		}
	}
	return int(sign)
}

// The other curve's numbers.
func curveA() pair { return small(0, 240) }
func curveB() pair { return small(1012, 1012) }
func curveZ() pair { return small(-2, -1) }

// squareAt tells g(x).
func squareAt(x pair) pair { return x.mul(x).mul(x).add(curveA().mul(x)).add(curveB()) }

// whole: a point's numbers; of the infinite one none.
type whole struct{ x, y pair }

// String tells it as text.
func (a whole) String() string { return fmt.Sprintf("(%v, %v)", a.x, a.y) }

func (a whole) infinite() bool { return a.x.a == nil }

func (a whole) equal(b whole) bool {
	if a.infinite() || b.infinite() {
		return a.infinite() && b.infinite()
	}
	return a.x.equal(b.x) && a.y.equal(b.y)
}

func (a whole) neg() whole { return whole{a.x, a.y.neg()} }

// add tells the sum of two points of the other curve, of which none is infinite.
func (a whole) add(b whole) whole {
	if a.equal(b.neg()) {
		return whole{}
	}
	up, across := b.y.sub(a.y), b.x.sub(a.x)
	if a.equal(b) {
		up, across = a.x.mul(a.x).mul(small(3, 0)).add(curveA()), a.y.add(a.y)
	}
	slope := up.mul(across.over())
	x := slope.mul(slope).sub(a.x).sub(b.x)
	return whole{x, a.x.sub(x).mul(slope).sub(a.y)}
}

// madeOf tells Swu by the chapter's words, and whether g(x1) is a square.
func madeOf(u pair) (whole, bool) {
	scaled := curveZ().mul(u).mul(u)
	t := scaled.mul(scaled).add(scaled)
	x := curveB().mul(curveZ().mul(curveA()).over())
	if !t.isZero() {
		x = curveB().neg().mul(curveA().over()).mul(small(1, 0).add(t.over()))
	}
	first := len(squareAt(x).roots()) > 0
	if !first {
		x = scaled.mul(x)
	}
	for _, y := range squareAt(x).roots() {
		if y.isZero() || y.sgn() == u.sgn() {
			return whole{x, y}, first
		}
	}
	return whole{}, first
}

// The chapter's coefficients, the lowest first.
func coefficients() (xn, xd, yn, yd []pair) {
	xn = []pair{
		long("5c759507e8e333ebb5b7a9a47d7ed8532c52d39fd3a042a88b58423c50ae15d5c2638e343d9c71c6238aaaaaaaa97d6", "5c759507e8e333ebb5b7a9a47d7ed8532c52d39fd3a042a88b58423c50ae15d5c2638e343d9c71c6238aaaaaaaa97d6"),
		long("0", "11560bf17baa99bc32126fced787c88f984f87adf7ae0c7f9a208c6b4f20a4181472aaa9cb8d555526a9ffffffffc71a"),
		long("11560bf17baa99bc32126fced787c88f984f87adf7ae0c7f9a208c6b4f20a4181472aaa9cb8d555526a9ffffffffc71e", "8ab05f8bdd54cde190937e76bc3e447cc27c3d6fbd7063fcd104635a790520c0a395554e5c6aaaa9354ffffffffe38d"),
		long("171d6541fa38ccfaed6dea691f5fb614cb14b4e7f4e810aa22d6108f142b85757098e38d0f671c7188e2aaaaaaaa5ed1", "0"),
	}
	xd = []pair{long("0", "-48"), long("c", "-c"), long("1", "0")}
	yn = []pair{
		long("1530477c7ab4113b59a4c18b076d11930f7da5d4a07f649bf54439d87d27e500fc8c25ebf8c92f6812cfc71c71c6d706", "1530477c7ab4113b59a4c18b076d11930f7da5d4a07f649bf54439d87d27e500fc8c25ebf8c92f6812cfc71c71c6d706"),
		long("0", "5c759507e8e333ebb5b7a9a47d7ed8532c52d39fd3a042a88b58423c50ae15d5c2638e343d9c71c6238aaaaaaaa97be"),
		long("11560bf17baa99bc32126fced787c88f984f87adf7ae0c7f9a208c6b4f20a4181472aaa9cb8d555526a9ffffffffc71c", "8ab05f8bdd54cde190937e76bc3e447cc27c3d6fbd7063fcd104635a790520c0a395554e5c6aaaa9354ffffffffe38f"),
		long("124c9ad43b6cf79bfbf7043de3811ad0761b0f37a1e26286b0e977c69aa274524e79097a56dc4bd9e1b371c71c718b10", "0"),
	}
	yd = []pair{long("-1b0", "-1b0"), long("0", "-d8"), long("12", "-12"), long("1", "0")}
	return xn, xd, yn, yd
}

// at tells the polynomial of these coefficients at x, power by power.
func at(l []pair, x pair) pair {
	out, power := small(0, 0), small(1, 0)
	for _, c := range l {
		out = out.add(c.mul(power))
		power = power.mul(x)
	}
	return out
}

// broughtOver tells Iso of a point of the other curve by the chapter's words.
func broughtOver(a whole) whole {
	xn, xd, yn, yd := coefficients()
	if at(xd, a.x).isZero() || at(yd, a.x).isZero() {
		return whole{}
	}
	return whole{at(xn, a.x).mul(at(xd, a.x).over()), a.y.mul(at(yn, a.x)).mul(at(yd, a.x).over())}
}

// elem tells the element of numbers below p.
func elem(t testing.TB, x pair) fp2.Elem {
	t.Helper()
	a, ok := fp.From(x.a.FillBytes(make([]byte, 48)))
	b, too := fp.From(x.b.FillBytes(make([]byte, 48)))
	if !ok || !too {
		t.Fatalf("P3.1: From of %x and %x: %v, %v", x.a, x.b, ok, too)
	}
	return fp2.Elem{C0: a, C1: b}
}

// of tells the numbers of an element.
func of(x fp2.Elem) pair {
	first, second := x.C0.Bytes(), x.C1.Bytes()
	return pair{new(big.Int).SetBytes(first[:]), new(big.Int).SetBytes(second[:])}
}

// ofPoint tells the numbers of a point.
func ofPoint(p g2.Point) whole {
	x, y, ok := p.XY()
	if !ok {
		return whole{}
	}
	return whole{of(x), of(y)}
}

// random tells a + b i, any of them.
func random(r *rand.Rand) pair {
	return pair{new(big.Int).Rand(r, prime()), new(big.Int).Rand(r, prime())}
}

// parts tells numbers below p: the first and the last, those about the middle, and the ends of
// words.
func parts() []*big.Int {
	p := prime()
	half := new(big.Int).Rsh(p, 1)
	out := []*big.Int{half, new(big.Int).Add(half, big.NewInt(1)), new(big.Int).Lsh(big.NewInt(1), 64), new(big.Int).Lsh(big.NewInt(1), 380)}
	for n := range int64(3) {
		out = append(out, big.NewInt(n), new(big.Int).Sub(p, big.NewInt(n+1)))
	}
	return out
}

// numbers tells a + b i of all edges, and so many others, some of them with one part alone.
func numbers(seed int64, count int) []pair {
	r := rand.New(rand.NewSource(seed))
	var out []pair
	for _, a := range parts() {
		for _, b := range parts() {
			out = append(out, pair{a, b})
		}
	}
	for n := range count {
		x := random(r)
		switch n % 8 {
		case 0:
			x.a = new(big.Int)
		case 1:
			x.b = new(big.Int)
		}
		out = append(out, x)
	}
	return out
}

// otherPoints tells the points of the other curve whose x is one of these.
func otherPoints(xs []pair) []whole {
	var out []whole
	for _, x := range xs {
		for _, y := range squareAt(x).roots() {
			out = append(out, whole{x, y})
		}
	}
	return out
}
