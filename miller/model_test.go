package miller_test

import (
	"fmt"
	"math/big"
	"math/rand"
)

// hex tells the number of hexadecimal digits.
func hex(digits string) *big.Int {
	x, ok := new(big.Int).SetString(digits, 16)
	if !ok {
		panic(digits)
	}
	return x
}

// prime tells p.
func prime() *big.Int {
	return hex("1a0111ea397fe69a4b1ba7b6434bacd764774b84f38512bf6730d2a0f6b0f6241eabfffeb153ffffb9feffffffffaaab")
}

// order tells r.
func order() *big.Int {
	return hex("73eda753299d7d483339d80809a1d80553bda402fffe5bfeffffffff00000001")
}

// count1, count2 tell how many points the curves have: r times the cofactors.
func count1() *big.Int { return new(big.Int).Mul(order(), hex("396c8c005555e1568c00aaab0000aaab")) }

func count2() *big.Int {
	return new(big.Int).Mul(order(), hex("5d543a95414e7f1091d50792876a202cd91de4547085abaa68a205b2e5a7ddfa"+
		"628f1cb4d9e82ef21537e293a6691ae1616ec6e786f0c70cf1c38e31c7238e5"))
}

// loopNumber tells u.
func loopNumber() *big.Int { return hex("d201000000010000") }

// power tells 3 (p^12 - 1)/r.
func power() *big.Int {
	out := new(big.Int).Exp(prime(), big.NewInt(12), nil)
	out.Sub(out, big.NewInt(1))
	return out.Mul(out.Div(out, order()), big.NewInt(3))
}

// lastPower tells 3 (p^4 - p^2 + 1)/r.
func lastPower() *big.Int {
	square := new(big.Int).Mul(prime(), prime())
	out := new(big.Int).Mul(square, square)
	out.Sub(out, square).Add(out, big.NewInt(1))
	return out.Mul(out.Div(out, order()), big.NewInt(3))
}

// two: a + b i, of numbers below p.
type two struct{ a, b *big.Int }

// String tells it as text.
func (x two) String() string { return fmt.Sprintf("%x + %x i", x.a, x.b) }

// small tells a + b i, modulo p.
func small(a, b int64) two { return two{big.NewInt(a), big.NewInt(b)}.mod() }

func (x two) mod() two {
	return two{new(big.Int).Mod(x.a, prime()), new(big.Int).Mod(x.b, prime())}
}

func (x two) equal(y two) bool { return x.a.Cmp(y.a) == 0 && x.b.Cmp(y.b) == 0 }

func (x two) add(y two) two {
	return two{new(big.Int).Add(x.a, y.a), new(big.Int).Add(x.b, y.b)}.mod()
}

func (x two) sub(y two) two {
	return two{new(big.Int).Sub(x.a, y.a), new(big.Int).Sub(x.b, y.b)}.mod()
}

// mul tells the product, by the four products of the parts.
func (x two) mul(y two) two {
	aa, bb := new(big.Int).Mul(x.a, y.a), new(big.Int).Mul(x.b, y.b)
	ab, ba := new(big.Int).Mul(x.a, y.b), new(big.Int).Mul(x.b, y.a)
	return two{aa.Sub(aa, bb), ab.Add(ab, ba)}.mod()
}

// over tells 1 over it.
func (x two) over() two {
	length := x.mul(two{x.a, new(big.Int).Neg(x.b)}).a
	length.ModInverse(length, prime())
	return two{new(big.Int).Mul(x.a, length), new(big.Int).Neg(new(big.Int).Mul(x.b, length))}.mod()
}

// spot: the numbers of a point of g2; of the infinite one none.
type spot struct{ x, y two }

// String tells it as text.
func (a spot) String() string { return fmt.Sprintf("(%v, %v)", a.x, a.y) }

func (a spot) infinite() bool { return a.x.a == nil }

func (a spot) equal(b spot) bool {
	if a.infinite() || b.infinite() {
		return a.infinite() && b.infinite()
	}
	return a.x.equal(b.x) && a.y.equal(b.y)
}

func (a spot) neg() spot {
	if a.infinite() {
		return a
	}
	return spot{a.x, small(0, 0).sub(a.y)}
}

// slope tells that of the chord through both, of the tangent if they are the same, or false if there
// is none.
func (a spot) slope(b spot) (two, bool) {
	switch {
	case a.infinite() || b.infinite() || a.equal(b.neg()):
		return two{}, false
	case a.equal(b):
		return a.x.mul(a.x).mul(small(3, 0)).mul(a.y.add(a.y).over()), true
	}
	return b.y.sub(a.y).mul(b.x.sub(a.x).over()), true
}

// add tells the sum by chord or tangent.
func (a spot) add(b spot) spot {
	slope, ok := a.slope(b)
	switch {
	case a.infinite():
		return b
	case b.infinite():
		return a
	case !ok:
		return spot{}
	}
	x := slope.mul(slope).sub(a.x).sub(b.x)
	return spot{x, a.x.sub(x).mul(slope).sub(a.y)}
}

// row: the numbers of 1, w, w w and so on up to w to the power of 11. As 1 + i is w to the power of
// 6, i is that less 1, and w to the power of 12 is 2 w^6 - 2: so that it is a field of rows, without
// i and v.
type row [12]*big.Int

// rowOf tells the row of the parts by 1, w, w w and so on.
func rowOf(parts ...two) row {
	out := row{}
	for k := range 6 {
		part := small(0, 0)
		if k < len(parts) {
			part = parts[k]
		}
		out[k], out[k+6] = new(big.Int).Sub(part.a, part.b), new(big.Int).Set(part.b)
	}
	return out.mod()
}

func (r row) mod() row {
	out, p := row{}, prime()
	for k := range out {
		out[k] = new(big.Int).Mod(r[k], p)
	}
	return out
}

// part tells the part by w to the power of k.
func (r row) part(k int) two {
	return two{new(big.Int).Add(r[k], r[k+6]), r[k+6]}.mod()
}

func (r row) mul(s row) row {
	long := [23]*big.Int{}
	for k := range long {
		long[k] = new(big.Int)
	}
	product := new(big.Int)
	for j := range r {
		for k := range s {
			long[j+k].Add(long[j+k], product.Mul(r[j], s[k]))
		}
	}
	for k := 22; k >= 12; k-- {
		twice := new(big.Int).Lsh(long[k], 1)
		long[k-6].Add(long[k-6], twice)
		long[k-12].Sub(long[k-12], twice)
	}
	return row(long[:12]).mod()
}

// conj tells it with the other sign by each odd power of w.
func (r row) conj() row {
	for k := 1; k < len(r); k += 2 {
		r[k] = new(big.Int).Neg(r[k])
	}
	return r.mod()
}

// line tells what Line should of r and q, of x and y below p.
func line(r, q spot, x, y *big.Int) (row, bool) {
	slope, ok := r.slope(q)
	if !ok {
		return rowOf(small(1, 0)), false
	}
	zero := small(0, 0)
	across := zero.sub(slope.mul(two{x, new(big.Int)}))
	return rowOf(slope.mul(r.x).sub(r.y), zero, across, two{y, new(big.Int)}), true
}

// value tells the value of a pair of a point of g1, whose numbers these are, and one of g2.
func value(x, y *big.Int, q spot) row {
	u := loopNumber()
	f, r := rowOf(small(1, 0)), q
	for bit := u.BitLen() - 2; bit >= 0; bit-- {
		touching, _ := line(r, r, x, y)
		f, r = f.mul(f).mul(touching), r.add(r)
		if u.Bit(bit) == 1 {
			through, _ := line(r, q, x, y)
			f, r = f.mul(through), r.add(q)
		}
	}
	return f.conj()
}

// numbers tells numbers below p about its ends and its half, and so many others.
func numbers(r *rand.Rand, count int) []*big.Int {
	half := prime()
	half.Rsh(half, 1)
	out := []*big.Int{half}
	for n := range int64(3) {
		out = append(out, big.NewInt(n), new(big.Int).Sub(prime(), big.NewInt(n+1)))
	}
	for range count {
		out = append(out, new(big.Int).Rand(r, prime()))
	}
	return out
}
