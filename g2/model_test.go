package g2_test

import (
	"fmt"
	"math/big"
	"math/rand"
	"slices"
	"sync"
)

// hex tells the number of hexadecimal digits.
func hex(digits string) *big.Int {
	x, ok := new(big.Int).SetString(digits, 16)
	if !ok {
		panic(digits)
	}
	return x
}

// prime tells p.
func prime() *big.Int {
	return hex("1a0111ea397fe69a4b1ba7b6434bacd764774b84f38512bf6730d2a0f6b0f6241eabfffeb153ffffb9feffffffffaaab")
}

// order tells r.
func order() *big.Int {
	return hex("73eda753299d7d483339d80809a1d80553bda402fffe5bfeffffffff00000001")
}

// count tells how many points the curve has: r times the cofactor.
func count() *big.Int {
	return new(big.Int).Mul(order(), hex("5d543a95414e7f1091d50792876a202cd91de4547085abaa68a205b2e5a7ddfa"+
		"628f1cb4d9e82ef21537e293a6691ae1616ec6e786f0c70cf1c38e31c7238e5"))
}

// pair: a + b i, of numbers below p.
type pair struct{ a, b *big.Int }

// String tells it as text.
func (x pair) String() string { return fmt.Sprintf("%x + %x i", x.a, x.b) }

// small tells a + b i, modulo p.
func small(a, b int64) pair { return pair{big.NewInt(a), big.NewInt(b)}.mod() }

func (x pair) mod() pair {
	return pair{new(big.Int).Mod(x.a, prime()), new(big.Int).Mod(x.b, prime())}
}

func (x pair) equal(y pair) bool { return x.a.Cmp(y.a) == 0 && x.b.Cmp(y.b) == 0 }

func (x pair) isZero() bool { return x.a.Sign() == 0 && x.b.Sign() == 0 }

func (x pair) add(y pair) pair {
	return pair{new(big.Int).Add(x.a, y.a), new(big.Int).Add(x.b, y.b)}.mod()
}

func (x pair) sub(y pair) pair {
	return pair{new(big.Int).Sub(x.a, y.a), new(big.Int).Sub(x.b, y.b)}.mod()
}

// mul tells the product, by the four products of the parts.
func (x pair) mul(y pair) pair {
	aa, bb := new(big.Int).Mul(x.a, y.a), new(big.Int).Mul(x.b, y.b)
	ab, ba := new(big.Int).Mul(x.a, y.b), new(big.Int).Mul(x.b, y.a)
	return pair{aa.Sub(aa, bb), ab.Add(ab, ba)}.mod()
}

// over tells 1 over it.
func (x pair) over() pair {
	length := x.mul(pair{x.a, new(big.Int).Neg(x.b)}).a
	length.ModInverse(length, prime())
	return pair{new(big.Int).Mul(x.a, length), new(big.Int).Neg(new(big.Int).Mul(x.b, length))}.mod()
}

// roots tells the two roots, the one if it is 0, or none: a root c + d i has c c = (a + l)/2, l l
// being a a + b b, and 2 c d = b.
func (x pair) roots() []pair {
	if x.isZero() {
		return []pair{x}
	}
	p := prime()
	length := x.mul(pair{x.a, new(big.Int).Neg(x.b)}).a
	if length.ModSqrt(length, p) == nil {
		return nil
	}
	half := new(big.Int).ModInverse(big.NewInt(2), p)
	for range 2 {
		length.Neg(length)
		c := new(big.Int).Add(x.a, length)
		if c.ModSqrt(c.Mul(c, half).Mod(c, p), p) == nil {
			continue
		}
		d := new(big.Int)
		if c.Sign() != 0 {
			d.ModInverse(d.Lsh(c, 1), p).Mul(d, x.b)
		} else if d.ModSqrt(d.Neg(x.a).Mod(d, p), p) == nil { // the root would be d i, with d d = -a
			continue
		}
		out := pair{c, d}.mod()
		return []pair{out, small(0, 0).sub(out)}
	}
	return nil
}

// large tells whether the last part that isn't 0 is above (p - 1)/2.
func (x pair) large() bool {
	half := prime()
	half.Rsh(half, 1)
	if x.b.Sign() != 0 {
		return x.b.Cmp(half) > 0
	}
	return x.a.Cmp(half) > 0
}

// whole: a point's numbers; of the infinite one none.
type whole struct{ x, y pair }

// String tells it as text.
func (a whole) String() string { return fmt.Sprintf("(%v, %v)", a.x, a.y) }

func (a whole) infinite() bool { return a.x.a == nil }

func (a whole) equal(b whole) bool {
	if a.infinite() || b.infinite() {
		return a.infinite() && b.infinite()
	}
	return a.x.equal(b.x) && a.y.equal(b.y)
}

func (a whole) neg() whole {
	if a.infinite() {
		return a
	}
	return whole{a.x, small(0, 0).sub(a.y)}
}

// add tells the sum by chord or tangent.
func (a whole) add(b whole) whole {
	switch {
	case a.infinite():
		return b
	case b.infinite():
		return a
	case a.equal(b.neg()):
		return whole{}
	case a.equal(b):
		return a.line(b, a.x.mul(a.x).mul(small(3, 0)), a.y.add(a.y))
	}
	return a.line(b, b.y.sub(a.y), b.x.sub(a.x))
}

// line tells the other point of the curve, turned upside down, on the line through both that rises
// by so much over so much.
func (a whole) line(b whole, up, across pair) whole {
	slope := up.mul(across.over())
	x := slope.mul(slope).sub(a.x).sub(b.x)
	return whole{x, a.x.sub(x).mul(slope).sub(a.y)}
}

// times tells it n times.
func (a whole) times(n *big.Int) whole {
	out := whole{}
	for bit := n.BitLen() - 1; bit >= 0; bit-- {
		if out = out.add(out); n.Bit(bit) == 1 {
			out = out.add(a)
		}
	}
	return out
}

// squareAt tells x x x + 4 (1 + i).
func squareAt(x pair) pair { return x.mul(x).mul(x).add(small(4, 4)) }

// at tells the points of an x: two, one whose y is 0, or none.
func at(x pair) []whole {
	var out []whole
	for _, y := range squareAt(x).roots() {
		out = append(out, whole{x, y})
	}
	return out
}

// base tells the generator.
func base() whole {
	return whole{
		pair{
			hex("24aa2b2f08f0a91260805272dc51051c6e47ad4fa403b02b4510b647ae3d1770bac0326a805bbefd48056c8c121bdb8"),
			hex("13e02b6052719f607dacd3a088274f65596bd0d09920b61ab5da61bbdc7f5049334cf11213945d57e5ac7d055d042b7e"),
		},
		pair{
			hex("ce5d527727d6e118cc9cdc6da2e351aadfd9baa8cbdd3a76d429a695160d12c923ac9cc3baca289e193548608b82801"),
			hex("606c4a02ea734cc32acd2b02bc28b99cb3e287e85a763af267492ab572e99ab3f370d275cec1da1aaa9075ff05f79be"),
		},
	}
}

// realY tells a point whose y is 3.
func realY() whole {
	return whole{pair{
		hex("9f1477ff0430ca4808b4b98f3ce959fcb5be667df6ef1073e182a4f887fa0f0b7fdd6105d99e027bba24c6b4e932032"),
		hex("c2b2b8487f8e8d648e4f7905c0943b14474f62dd4726f98e902923c7fa2518eab1519d0cd9eef39aad762206d086ced"),
	}, small(3, 0)}
}

// imaginaryY tells a point whose y is i.
func imaginaryY() whole {
	return whole{pair{
		hex("100fca6a493cd9f5ca905c1d4f7d1737991b651d141621b82918a8516e31553366ae29ee53ba1fd7fe5cb394b16c8a79"),
		hex("c2b2b8487f8e8d648e4f7905c0943b14474f62dd4726f98e902923c7fa2518eab1519d0cd9eef39aad762206d086ced"),
	}, small(0, 1)}
}

// random tells a + b i, any of them.
func random(r *rand.Rand) pair {
	return pair{new(big.Int).Rand(r, prime()), new(big.Int).Rand(r, prime())}
}

// anywhere tells some point of the curve, hardly one of the group.
func anywhere(r *rand.Rand) whole {
	for {
		if both := at(random(r)); len(both) > 0 {
			return both[r.Intn(len(both))]
		}
	}
}

// primes tells the small primes that divide the number of points, 13 and 23 of them twice.
func primes() []int64 { return []int64{13, 23, 2713, 11953, 262069} }

// ofOrder tells a point that is the infinite one n times, n a prime, and not fewer times.
func ofOrder(r *rand.Rand, n *big.Int) whole {
	rest, zero := count(), new(big.Int)
	for new(big.Int).Mod(rest, n).Cmp(zero) == 0 {
		rest.Div(rest, n)
	}
	for {
		a := anywhere(r).times(rest)
		for !a.infinite() {
			next := a.times(n)
			if next.infinite() {
				return a
			}
			a = next
		}
	}
}

// turned tells the point with its x multiplied by a third root of 1, so that y stays.
func (a whole) turned() whole {
	turn := hex("5f19672fdf76ce51ba69c6076a0f77eaddb3a93be6f89688de17d813620a00022e01fffffffefffe")
	return whole{a.x.mul(pair{turn, new(big.Int)}), a.y}
}

// once tells the edges, made only once.
var once = sync.OnceValue(makeEdges)

// edges tells the edges, as a new list.
func edges() []whole { return slices.Clone(once()) }

// makeEdges tells the infinite point, the generator, its first few times and their negatives, points
// of each small prime order, points of which y is the same, those of which y has one part alone,
// and those of the first and last numbers x.
func makeEdges() []whole {
	r := rand.New(rand.NewSource(1))
	out := []whole{{}}
	for n := range 4 {
		a := base().times(big.NewInt(int64(n + 1)))
		out = append(out, a, a.neg())
	}
	for _, n := range primes() {
		a := ofOrder(r, big.NewInt(n))
		out = append(out, a, a.neg(), a.add(a), a.add(base()))
	}
	last := out[len(out)-1]
	out = append(out, last.turned(), last.turned().turned(), base().turned())
	out = append(out, realY(), realY().neg(), imaginaryY(), imaginaryY().neg())
	for n := range int64(3) {
		for _, x := range []pair{small(n, 0), small(0, n), small(n, n), small(-1-n, 0), small(0, -1-n)} {
			out = append(out, at(x)...)
		}
	}
	return out
}

// numbers tells the edges, and so many others, of which half are in the group.
func numbers(seed int64, count int) []whole {
	r := rand.New(rand.NewSource(seed))
	out := edges()
	for n := range count {
		if n%2 == 0 {
			out = append(out, anywhere(r))
		} else {
			out = append(out, base().times(new(big.Int).Rand(r, order())))
		}
	}
	return out
}

// pairs tells all pairs of edges, and so many of others.
func pairs(seed int64, count int) [][2]whole {
	var out [][2]whole
	all := edges()
	for _, a := range all {
		for _, b := range all {
			out = append(out, [2]whole{a, b})
		}
	}
	some := numbers(seed, 2*count)[len(all):]
	for k := range count {
		out = append(out, [2]whole{some[2*k], some[2*k+1]})
	}
	return out
}

// every tells every so many of pairs.
func every(n int, all [][2]whole) [][2]whole {
	var out [][2]whole
	for k := 0; k < len(all); k += n {
		out = append(out, all[k])
	}
	return out
}
