package h2c_test

import (
	"math/big"
	"math/rand"
	"testing"

	"pharos/api"
	"pharos/fp"
	"pharos/fp2"
	"pharos/g2"
	"pharos/h2c"
)

// hex tells the number of hexadecimal digits.
func hex(digits string) *big.Int {
	x, ok := new(big.Int).SetString(digits, 16)
	if !ok {
		panic(digits)
	}
	return x
}

// factor tells the chapter's number: how many times Clear takes a point.
func factor() *big.Int {
	return hex("bc69f08f2ee75b3584c6a0ea91b352888e2a8e9145ad7689986ff031508ffe1329c2f178731db956d82bf015d1212b02ec0ec69d7477c1ae954cbc06689f6a359894c0adebbf6b4e8020005aaa95551")
}

// order tells r.
func order() *big.Int {
	return hex("73eda753299d7d483339d80809a1d80553bda402fffe5bfeffffffff00000001")
}

// cofactor tells how many points the curve has, over r.
func cofactor() *big.Int {
	return hex("5d543a95414e7f1091d50792876a202cd91de4547085abaa68a205b2e5a7ddfa628f1cb4d9e82ef21537e293a6691ae1616ec6e786f0c70cf1c38e31c7238e5")
}

// elem tells a + b i, of numbers in hexadecimal digits.
func elem(a, b string) fp2.Elem {
	return fp2.Elem{C0: fp.Wide(hex(a).Bytes()), C1: fp.Wide(hex(b).Bytes())}
}

// at tells the point of x and y, each of two numbers in hexadecimal digits.
func at(t testing.TB, l [4]string) g2.Point {
	t.Helper()
	p, ok := g2.Affine(elem(l[0], l[1]), elem(l[2], l[3]))
	if !ok {
		t.Fatalf("P9.1: no point of the curve: %v", l)
	}
	return p
}

// text tells so many bytes.
func text(seed int64, n int) []byte {
	out := make([]byte, n)
	rand.New(rand.NewSource(seed)).Read(out)
	return out
}

// random tells a + b i, any of them.
func random(r *rand.Rand) fp2.Elem {
	var b [2][60]byte
	r.Read(b[0][:])
	r.Read(b[1][:])
	return fp2.Elem{C0: fp.Wide(b[0][:]), C1: fp.Wide(b[1][:])}
}

// anywhere tells some point of the curve, hardly one of the group.
func anywhere(r *rand.Rand) g2.Point {
	for {
		if p, ok := g2.Lift(random(r), r.Intn(2) == 1); ok {
			return p
		}
	}
}

// inside tells some point of the group.
func inside(r *rand.Rand) g2.Point {
	return g2.Generator().Mul(new(big.Int).Rand(r, order()).Bytes())
}

// primes tells the small primes that divide the cofactor, 13 and 23 twice.
func primes() []int64 { return []int64{13, 23, 2713, 11953, 262069} }

// ofOrder tells a point that is the infinite one n times, n a prime, and not fewer times.
func ofOrder(r *rand.Rand, n int64) g2.Point {
	by, rest := big.NewInt(n), new(big.Int).Mul(order(), cofactor())
	for new(big.Int).Mod(rest, by).Sign() == 0 {
		rest.Div(rest, by)
	}
	for {
		p := anywhere(r).Mul(rest.Bytes())
		for !p.IsInfinity() {
			next := p.Mul(by.Bytes())
			if next.IsInfinity() {
				return p
			}
			p = next
		}
	}
}

// times tells a point n times, bit by bit.
func times(p g2.Point, n *big.Int) g2.Point {
	out := g2.Infinity()
	for bit := n.BitLen() - 1; bit >= 0; bit-- {
		if out = out.Double(); n.Bit(bit) == 1 {
			out = out.Add(p)
		}
	}
	return out
}

// infinite tells the infinite point, by whatever sums.
func infinite(r *rand.Rand) []g2.Point {
	p, q := anywhere(r), inside(r)
	return []g2.Point{
		{}, g2.Infinity(), g2.Infinity().Neg(), g2.Infinity().Double(), p.Add(p.Neg()), p.Mul(nil),
		q.Mul(order().Bytes()), p.Mul(order().Bytes()).Mul(cofactor().Bytes()),
	}
}

// outside tells points that aren't in the group: those of each small prime order, their sums with
// ones of the group, those of small numbers x, and any.
func outside(r *rand.Rand) []g2.Point {
	out := []g2.Point{anywhere(r), anywhere(r).Double(), anywhere(r).Mul(order().Bytes())}
	for _, n := range primes() {
		p := ofOrder(r, n)
		out = append(out, p, p.Neg(), p.Add(g2.Generator()), inside(r).Add(p))
	}
	for n := range uint64(8) {
		for _, x := range []fp2.Elem{{C0: fp.Of(n)}, {C1: fp.Of(n)}, {C0: fp.Of(n), C1: fp.Of(n)}} {
			if p, ok := g2.Lift(x, n%2 == 1); ok {
				out = append(out, p)
			}
		}
	}
	return out
}

// within tells points of the group, none of them infinite.
func within(r *rand.Rand) []g2.Point {
	g := g2.Generator()
	less := new(big.Int).Sub(order(), big.NewInt(1))
	out := []g2.Point{g, g.Neg(), g.Double(), g.Mul([]byte{3}), g.Mul(less.Bytes()), anywhere(r).Mul(cofactor().Bytes())}
	for range 5 {
		out = append(out, inside(r))
	}
	return out
}

// isGroups tells whether r times a point is the infinite one, and InGroup says so.
func isGroups(p g2.Point) bool {
	return p.InGroup() && times(p, order()).IsInfinity()
}

// hashed tells Hash of texts that it takes.
func hashed(t testing.TB, msg, dst []byte) g2.Point {
	t.Helper()
	p, err := h2c.Hash(msg, dst)
	if err != api.OK {
		t.Fatalf("P15.1: Hash of %d and %d bytes: %d", len(msg), len(dst), err)
	}
	return p
}
