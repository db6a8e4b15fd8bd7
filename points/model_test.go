package points_test

import (
	"bytes"
	"math/big"
	"math/rand"
	"testing"

	"pharos/api"
	"pharos/fp"
	"pharos/fp2"
	"pharos/g1"
	"pharos/g2"
)

// hex tells the number of hexadecimal digits.
func hex(digits string) *big.Int {
	x, ok := new(big.Int).SetString(digits, 16)
	if !ok {
		panic(digits)
	}
	return x
}

// prime tells p.
func prime() *big.Int {
	return hex("1a0111ea397fe69a4b1ba7b6434bacd764774b84f38512bf6730d2a0f6b0f6241eabfffeb153ffffb9feffffffffaaab")
}

// order tells r.
func order() *big.Int {
	return hex("73eda753299d7d483339d80809a1d80553bda402fffe5bfeffffffff00000001")
}

// count1, count2 tell how many points the curves have: r times the cofactors.
func count1() *big.Int { return new(big.Int).Mul(order(), hex("396c8c005555e1568c00aaab0000aaab")) }

func count2() *big.Int {
	return new(big.Int).Mul(order(), hex("5d543a95414e7f1091d50792876a202cd91de4547085abaa68a205b2e5a7ddfa"+
		"628f1cb4d9e82ef21537e293a6691ae1616ec6e786f0c70cf1c38e31c7238e5"))
}

// mod tells a number modulo p.
func mod(x *big.Int) *big.Int { return new(big.Int).Mod(x, prime()) }

// above tells whether a number is above (p - 1)/2: twice it is above p - 1.
func above(x *big.Int) bool { return new(big.Int).Lsh(x, 1).Cmp(prime()) >= 0 }

// elem tells the element of a number below p.
func elem(t testing.TB, x *big.Int) fp.Elem {
	t.Helper()
	out, ok := fp.From(x.FillBytes(make([]byte, 48)))
	if !ok {
		t.Fatalf("P3.1: From of %x", x)
	}
	return out
}

// number tells an element's number.
func number(x fp.Elem) *big.Int {
	raw := x.Bytes()
	return new(big.Int).SetBytes(raw[:])
}

// bits tells the number of an encoding, whose flags are its highest bits: whether they are there.
func bits(b []byte) (always, infinite, large bool, rest *big.Int) {
	rest = new(big.Int).SetBytes(b)
	top := 8*len(b) - 1
	always, infinite, large = rest.Bit(top) == 1, rest.Bit(top-1) == 1, rest.Bit(top-2) == 1
	return always, infinite, large, rest.Mod(rest, new(big.Int).Lsh(big.NewInt(1), uint(top-2)))
}

// head tells what is wrong with so many bytes up to their flags, and whether they are the infinite
// point's.
func head(b []byte, size int) (nowhere bool, err api.Errno) {
	if len(b) != size {
		return false, api.ErrPointLen
	}
	always, infinite, large, rest := bits(b)
	if !always || infinite && (large || rest.Sign() != 0) {
		return false, api.ErrPointFlag
	}
	return infinite, api.OK
}

// model1 tells what Decode1 should, by big numbers.
func model1(t testing.TB, b []byte) (g1.Point, api.Errno) {
	t.Helper()
	nowhere, err := head(b, 48)
	if err != api.OK || nowhere {
		return g1.Point{}, err
	}
	_, _, large, x := bits(b)
	if x.Cmp(prime()) >= 0 {
		return g1.Point{}, api.ErrPointRange
	}
	square := new(big.Int).Exp(x, big.NewInt(3), nil)
	y := new(big.Int).ModSqrt(mod(square.Add(square, big.NewInt(4))), prime())
	if y == nil || y.Sign() == 0 && large {
		return g1.Point{}, api.ErrPointCurve
	}
	if above(y) != large {
		y = mod(y.Neg(y))
	}
	p, ok := g1.Affine(elem(t, x), elem(t, y))
	if !ok {
		t.Fatalf("P8.1: Affine of %x, %x", x, y)
	}
	if !p.Mul(order().Bytes()).IsInfinity() {
		return g1.Point{}, api.ErrPointGroup
	}
	return p, api.OK
}

// root tells a root of a + b i, or false: a root c + d i has c c = (a + l)/2, l l being a a + b b,
// and 2 c d = b.
func root(a, b *big.Int) (c, d *big.Int, ok bool) {
	length := mod(new(big.Int).Add(new(big.Int).Mul(a, a), new(big.Int).Mul(b, b)))
	if length.ModSqrt(length, prime()) == nil {
		return nil, nil, false
	}
	half := new(big.Int).ModInverse(big.NewInt(2), prime())
	for range 2 {
		length = mod(new(big.Int).Neg(length))
		c := new(big.Int).Add(a, length)
		if c.ModSqrt(mod(c.Mul(c, half)), prime()) == nil {
			continue
		}
		d := new(big.Int)
		if c.Sign() != 0 {
			d = mod(d.ModInverse(d.Lsh(c, 1), prime()).Mul(d, b))
		} else if d.ModSqrt(mod(new(big.Int).Neg(a)), prime()) == nil { // the root would be d i, with d d = -a
			continue
		}
		return c, d, true
	}
	return nil, nil, false
}

// high tells whether a + b i is Large: the last part that isn't 0 is.
func high(a, b *big.Int) bool { return above(b) || b.Sign() == 0 && above(a) }

// squareAt tells what y y is on the second curve where x is a + b i.
func squareAt(a, b *big.Int) (*big.Int, *big.Int) {
	three := big.NewInt(3)
	first := new(big.Int).Exp(a, three, nil) // a a a - 3 a b b + 4
	first.Sub(first, new(big.Int).Mul(three, new(big.Int).Mul(a, new(big.Int).Mul(b, b))))
	second := new(big.Int).Mul(three, new(big.Int).Mul(b, new(big.Int).Mul(a, a))) // 3 a a b - b b b + 4
	second.Sub(second, new(big.Int).Exp(b, three, nil))
	return mod(first.Add(first, big.NewInt(4))), mod(second.Add(second, big.NewInt(4)))
}

// model2 tells what Decode2 should, by big numbers.
func model2(t testing.TB, b []byte) (g2.Point, api.Errno) {
	t.Helper()
	nowhere, err := head(b, 96)
	if err != api.OK || nowhere {
		return g2.Point{}, err
	}
	_, _, large, rest := bits(b)
	x1, x0 := new(big.Int), new(big.Int)
	x1.DivMod(rest, new(big.Int).Lsh(big.NewInt(1), 384), x0)
	if x1.Cmp(prime()) >= 0 || x0.Cmp(prime()) >= 0 {
		return g2.Point{}, api.ErrPointRange
	}
	y0, y1, ok := root(squareAt(x0, x1))
	if !ok || y0.Sign() == 0 && y1.Sign() == 0 && large {
		return g2.Point{}, api.ErrPointCurve
	}
	if high(y0, y1) != large {
		y0, y1 = mod(y0.Neg(y0)), mod(y1.Neg(y1))
	}
	x, y := fp2.Elem{C0: elem(t, x0), C1: elem(t, x1)}, fp2.Elem{C0: elem(t, y0), C1: elem(t, y1)}
	p, ok := g2.Affine(x, y)
	if !ok {
		t.Fatalf("P9.1: Affine of %x + %x i, %x + %x i", x0, x1, y0, y1)
	}
	if !p.Mul(order().Bytes()).IsInfinity() {
		return g2.Point{}, api.ErrPointGroup
	}
	return p, api.OK
}

// plain tells a number as so many bytes, with these flags.
func plain(flags byte, x *big.Int) []byte {
	b := x.FillBytes(make([]byte, 48))
	b[0] |= flags
	return b
}

// plain2 tells x1 and x0 as bytes, with these flags.
func plain2(flags byte, x1, x0 *big.Int) []byte {
	return append(plain(flags, x1), x0.FillBytes(make([]byte, 48))...)
}

// lowest tells the number without its factors n.
func lowest(x *big.Int, n int64) *big.Int {
	for new(big.Int).Mod(x, big.NewInt(n)).Sign() == 0 {
		x = new(big.Int).Div(x, big.NewInt(n))
	}
	return x
}

// ofOrder1, ofOrder2 tell a point that is the infinite one n times, n a prime, but not once.
func ofOrder1(r *rand.Rand, n int64) g1.Point {
	for {
		x := fp.Wide(new(big.Int).Rand(r, prime()).Bytes())
		p, _ := g1.Lift(x, r.Intn(2) == 0)
		p = p.Mul(lowest(count1(), n).Bytes())
		for !p.IsInfinity() {
			next := p.Mul(big.NewInt(n).Bytes())
			if next.IsInfinity() {
				return p
			}
			p = next
		}
	}
}

func ofOrder2(r *rand.Rand, n int64) g2.Point {
	for {
		x := fp2.Elem{C0: fp.Wide(new(big.Int).Rand(r, prime()).Bytes()), C1: fp.Wide(new(big.Int).Rand(r, prime()).Bytes())}
		p, _ := g2.Lift(x, r.Intn(2) == 0)
		p = p.Mul(lowest(count2(), n).Bytes())
		for !p.IsInfinity() {
			next := p.Mul(big.NewInt(n).Bytes())
			if next.IsInfinity() {
				return p
			}
			p = next
		}
	}
}

// outside1 tells points that aren't of the group: of small orders, and sums with the generator; with
// small numbers x; and any others.
func outside1() []g1.Point {
	r := rand.New(rand.NewSource(1))
	var out []g1.Point
	for _, n := range []int64{3, 11, 10177, 859267} {
		p := ofOrder1(r, n)
		out = append(out, p, p.Neg(), p.Add(g1.Generator()))
	}
	for n := range uint64(30) {
		for _, x := range []fp.Elem{fp.Of(n), fp.Of(n + 1).Neg(), fp.Wide(new(big.Int).Rand(r, prime()).Bytes())} {
			if p, ok := g1.Lift(x, n%2 == 0); ok {
				out = append(out, p, p.Neg())
			}
		}
	}
	return out
}

// outside2 tells the like of the other curve; and points whose y is 3 and i.
func outside2() []g2.Point {
	r := rand.New(rand.NewSource(2))
	var out []g2.Point
	for _, n := range []int64{13, 23, 2713, 11953} {
		p := ofOrder2(r, n)
		out = append(out, p, p.Neg(), p.Add(g2.Generator()))
	}
	for n := range uint64(12) {
		a, b := fp.Of(n), fp.Of(n+1).Neg()
		c := fp.Wide(new(big.Int).Rand(r, prime()).Bytes())
		for _, x := range []fp2.Elem{{C0: a}, {C1: a}, {C0: b}, {C1: b}, {C0: a, C1: b}, {C0: c, C1: a}, {C0: a, C1: c}} {
			if p, ok := g2.Lift(x, n%2 == 0); ok {
				out = append(out, p, p.Neg())
			}
		}
	}
	for _, y := range []fp2.Elem{{C0: fp.Of(3)}, {C1: fp.Of(1)}} {
		out = append(out, ofY(y), ofY(y.Neg()))
	}
	return out
}

// ofY tells the point of y 3, -3, i or -i.
func ofY(y fp2.Elem) g2.Point {
	x0 := hex("9f1477ff0430ca4808b4b98f3ce959fcb5be667df6ef1073e182a4f887fa0f0b7fdd6105d99e027bba24c6b4e932032")
	if y.C0.IsZero() {
		x0 = hex("100fca6a493cd9f5ca905c1d4f7d1737991b651d141621b82918a8516e31553366ae29ee53ba1fd7fe5cb394b16c8a79")
	}
	x1 := hex("c2b2b8487f8e8d648e4f7905c0943b14474f62dd4726f98e902923c7fa2518eab1519d0cd9eef39aad762206d086ced")
	p, ok := g2.Affine(fp2.Elem{C0: fp.Wide(x0.Bytes()), C1: fp.Wide(x1.Bytes())}, y)
	if !ok {
		panic("no point of that y")
	}
	return p
}

// inside tells numbers by which the generators are multiplied: of them some of the first and last.
func inside(seed int64, count int) [][]byte {
	r := rand.New(rand.NewSource(seed))
	var out [][]byte
	for n := range int64(12) {
		out = append(out, big.NewInt(n).Bytes(), new(big.Int).Sub(order(), big.NewInt(n+1)).Bytes())
	}
	for range count {
		out = append(out, new(big.Int).Rand(r, order()).Bytes())
	}
	return out
}

// roomy tells bytes with others before and behind them, and those all.
func roomy(b []byte) (cut, room []byte) {
	room = bytes.Repeat([]byte{0xa5}, 16+len(b)+112)
	copy(room[16:], b)
	return room[16 : 16+len(b)], room
}
