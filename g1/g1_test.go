package g1_test

import (
	"fmt"
	"math/big"
	"math/rand"
	"testing"

	"pharos/fp"
	"pharos/fr"
	"pharos/g1"
)

// hex tells the number of hexadecimal digits.
func hex(digits string) *big.Int {
	x, ok := new(big.Int).SetString(digits, 16)
	if !ok {
		panic(digits)
	}
	return x
}

// prime tells p.
func prime() *big.Int {
	return hex("1a0111ea397fe69a4b1ba7b6434bacd764774b84f38512bf6730d2a0f6b0f6241eabfffeb153ffffb9feffffffffaaab")
}

// order tells r.
func order() *big.Int {
	return hex("73eda753299d7d483339d80809a1d80553bda402fffe5bfeffffffff00000001")
}

// count tells how many points the curve has: r times the cofactor.
func count() *big.Int {
	return new(big.Int).Mul(order(), hex("396c8c005555e1568c00aaab0000aaab"))
}

// whole: a point's numbers below p; of the infinite one none.
type whole struct{ x, y *big.Int }

// String tells it as text.
func (a whole) String() string { return fmt.Sprintf("(%x, %x)", a.x, a.y) }

func (a whole) infinite() bool { return a.x == nil }

func (a whole) equal(b whole) bool {
	if a.infinite() || b.infinite() {
		return a.infinite() && b.infinite()
	}
	return a.x.Cmp(b.x) == 0 && a.y.Cmp(b.y) == 0
}

func (a whole) neg() whole {
	if a.infinite() {
		return a
	}
	y := new(big.Int).Neg(a.y)
	return whole{a.x, y.Mod(y, prime())}
}

// add tells the sum by chord or tangent.
func (a whole) add(b whole) whole {
	switch {
	case a.infinite():
		return b
	case b.infinite():
		return a
	case a.equal(b.neg()):
		return whole{}
	case a.equal(b):
		up := new(big.Int).Mul(a.x, a.x)
		return a.line(b, up.Mul(up, big.NewInt(3)), new(big.Int).Lsh(a.y, 1))
	}
	return a.line(b, new(big.Int).Sub(b.y, a.y), new(big.Int).Sub(b.x, a.x))
}

// line tells the other point of the curve, turned upside down, on the line through both that rises
// by so much over so much.
func (a whole) line(b whole, up, across *big.Int) whole {
	p := prime()
	over := new(big.Int).ModInverse(new(big.Int).Mod(across, p), p)
	slope := new(big.Int).Mul(up, over)
	x := new(big.Int).Mul(slope, slope)
	x.Sub(x, a.x).Sub(x, b.x).Mod(x, p)
	y := new(big.Int).Sub(a.x, x)
	y.Mul(y, slope).Sub(y, a.y).Mod(y, p)
	return whole{x, y}
}

// times tells it n times.
func (a whole) times(n *big.Int) whole {
	out := whole{}
	for bit := n.BitLen() - 1; bit >= 0; bit-- {
		if out = out.add(out); n.Bit(bit) == 1 {
			out = out.add(a)
		}
	}
	return out
}

// squareAt tells x x x + 4.
func squareAt(x *big.Int) *big.Int {
	out := new(big.Int).Exp(x, big.NewInt(3), nil)
	return out.Add(out, big.NewInt(4)).Mod(out, prime())
}

// at tells the points of an x: two, one whose y is 0, or none.
func at(x *big.Int) []whole {
	y := new(big.Int).ModSqrt(squareAt(x), prime())
	if y == nil {
		return nil
	}
	if a := (whole{x, y}); y.Sign() != 0 {
		return []whole{a, a.neg()}
	}
	return []whole{{x, y}}
}

// large tells whether a number is above (p - 1)/2.
func large(x *big.Int) bool {
	half := prime()
	return x.Cmp(half.Rsh(half, 1)) > 0
}

// base tells the generator.
func base() whole {
	return whole{
		hex("17f1d3a73197d7942695638c4fa9ac0fc3688c4f9774b905a14e3a3f171bac586c55e83ff97a1aeffb3af00adb22c6bb"),
		hex("8b3f481e3aaa0f1a09e30ed741d8ae4fcf5e095d5d00af600db18cb2c04b3edd03cc744a2888ae40caa232946c5e7e1"),
	}
}

// anywhere tells some point of the curve, hardly one of the group.
func anywhere(r *rand.Rand) whole {
	for {
		if both := at(new(big.Int).Rand(r, prime())); len(both) > 0 {
			return both[r.Intn(len(both))]
		}
	}
}

// primes tells the primes whose squares make the number of points, but 3 and r, which come once.
func primes() []int64 { return []int64{11, 10177, 859267, 52437899} }

// ofOrder tells a point that is the infinite one n times, n a prime, and not fewer times.
func ofOrder(r *rand.Rand, n *big.Int) whole {
	rest, zero := count(), new(big.Int)
	for new(big.Int).Mod(rest, n).Cmp(zero) == 0 {
		rest.Div(rest, n)
	}
	for {
		a := anywhere(r).times(rest)
		for !a.infinite() {
			next := a.times(n)
			if next.infinite() {
				return a
			}
			a = next
		}
	}
}

// edges tells the infinite point, the generator, its first few times and their negatives, points
// of each prime order, points of which y is the same, and those of the first and last numbers x.
func edges() []whole {
	r := rand.New(rand.NewSource(1))
	out := []whole{{}}
	for n := range 4 {
		a := base().times(big.NewInt(int64(n + 1)))
		out = append(out, a, a.neg())
	}
	for _, n := range primes() {
		a := ofOrder(r, big.NewInt(n))
		out = append(out, a, a.neg(), a.add(a), a.add(base()))
	}
	turn := hex("5f19672fdf76ce51ba69c6076a0f77eaddb3a93be6f89688de17d813620a00022e01fffffffefffe")
	for range 2 {
		x := new(big.Int).Mul(out[len(out)-1].x, turn)
		out = append(out, whole{x.Mod(x, prime()), out[len(out)-1].y})
	}
	for n := range int64(8) {
		out = append(out, at(big.NewInt(n))...)
		x := big.NewInt(-1 - n)
		out = append(out, at(x.Mod(x, prime()))...)
	}
	return out
}

// numbers tells the edges, and so many others, of which half are in the group.
func numbers(seed int64, count int) []whole {
	r := rand.New(rand.NewSource(seed))
	out := edges()
	for n := range count {
		if n%2 == 0 {
			out = append(out, anywhere(r))
		} else {
			out = append(out, base().times(new(big.Int).Rand(r, order())))
		}
	}
	return out
}

// pairs tells all pairs of edges, and so many of others.
func pairs(seed int64, count int) [][2]whole {
	var out [][2]whole
	all := edges()
	for _, a := range all {
		for _, b := range all {
			out = append(out, [2]whole{a, b})
		}
	}
	some := numbers(seed, 2*count)[len(all):]
	for k := range count {
		out = append(out, [2]whole{some[2*k], some[2*k+1]})
	}
	return out
}

// every tells every so many of pairs.
func every(n int, all [][2]whole) [][2]whole {
	var out [][2]whole
	for k := 0; k < len(all); k += n {
		out = append(out, all[k])
	}
	return out
}

// elem tells the element of a number below p.
func elem(t testing.TB, x *big.Int) fp.Elem {
	t.Helper()
	e, ok := fp.From(x.FillBytes(make([]byte, 48)))
	if !ok {
		t.Fatalf("P3.1: From of %x: false", x)
	}
	return e
}

// scalar tells the element of fr of a number, modulo r.
func scalar(x *big.Int) fr.Elem { return fr.Wide(x.Bytes()) }

// point tells the point of these numbers.
func point(t testing.TB, a whole) g1.Point {
	t.Helper()
	if a.infinite() {
		return g1.Infinity()
	}
	p, ok := g1.Affine(elem(t, a.x), elem(t, a.y))
	if !ok || p.IsInfinity() {
		t.Fatalf("P8.1: Affine of %v: %v", a, ok)
	}
	return p
}

// roundabout tells the point of these numbers, as a sum of others.
func roundabout(t testing.TB, a whole, by g1.Point) g1.Point {
	t.Helper()
	return point(t, a).Add(by).Add(by.Neg())
}

// of tells the numbers of a point.
func of(p g1.Point) whole {
	x, y, ok := p.XY()
	if !ok {
		return whole{}
	}
	first, second := x.Bytes(), y.Bytes()
	return whole{new(big.Int).SetBytes(first[:]), new(big.Int).SetBytes(second[:])}
}

// is tells whether a point's numbers are those, and it is theirs by Equal and IsInfinity too.
func is(t testing.TB, p g1.Point, want whole) bool {
	t.Helper()
	return of(p).equal(want) && p.Equal(point(t, want)) && p.IsInfinity() == want.infinite()
}

// nowhere tells whether a point is the infinite one by all that can be asked.
func nowhere(p g1.Point) bool {
	x, y, ok := p.XY()
	return !ok && x.IsZero() && y.IsZero() && p.IsInfinity() && p.Equal(g1.Infinity()) && g1.Infinity().Equal(p)
}

// P8.1: the generator is the chapter's, and new each time.
func TestGenerator(t *testing.T) {
	for range 2 {
		if !is(t, g1.Generator(), base()) || nowhere(g1.Generator()) {
			t.Errorf("P8.1: the generator: %v", of(g1.Generator()))
		}
	}
}

// P8.1: the infinite point, a zero Point, and the sums that come to it, are one.
func TestInfinity(t *testing.T) {
	g := g1.Generator()
	for k, p := range []g1.Point{
		g1.Infinity(), {}, g.Add(g.Neg()), g.Double().Add(g.Neg()).Add(g.Neg()), g.Mul(order().Bytes()),
		g1.Infinity().Double(), g1.Infinity().Neg(), g1.Infinity().Add(g1.Infinity()), g.Mul(nil), g1.Sum(nil),
		g1.Infinity().Mul([]byte{7}), g1.Infinity().MulFr(fr.Of(7)), g.MulFr(fr.Elem{}),
	} {
		if !nowhere(p) || p.Equal(g) || g.Equal(p) || !p.InGroup() {
			t.Errorf("P8.1: the infinite point, line %d: %v", k, of(p))
		}
		if !is(t, p.Add(g), base()) || !is(t, g.Add(p), base()) || !nowhere(p.Add(p)) || !nowhere(p.Double()) || !nowhere(p.Neg()) {
			t.Errorf("P8.2: sums with the infinite point, line %d", k)
		}
	}
}

// P8.1: Affine takes what is on the curve, and XY tells it again.
func TestAffine(t *testing.T) {
	for _, a := range numbers(2, 200) {
		if !is(t, point(t, a), a) {
			t.Fatalf("P8.1: XY of the point of %v: %v", a, of(point(t, a)))
		}
	}
}

// P8.1: Affine refuses what isn't on the curve, which may be another one's, and answers the
// infinite point beside.
func TestAffineRefused(t *testing.T) {
	p := prime()
	for _, a := range numbers(3, 200)[1:] {
		if a.infinite() {
			continue
		}
		for k, b := range []whole{
			{a.x, new(big.Int).Add(a.y, big.NewInt(1))},
			{a.x, new(big.Int).Sub(a.y, big.NewInt(1))},
			{a.x, new(big.Int).Lsh(a.y, 1)},
			{new(big.Int).Add(a.x, big.NewInt(1)), a.y},
			{new(big.Int).Neg(a.x), a.y},
			{a.y, a.x},
			{a.x, new(big.Int)},
			{new(big.Int), a.x},
		} {
			b.x.Mod(b.x, p)
			b.y.Mod(b.y, p)
			left := new(big.Int).Mul(b.y, b.y)
			on := left.Mod(left, p).Cmp(squareAt(b.x)) == 0
			got, ok := g1.Affine(elem(t, b.x), elem(t, b.y))
			if ok != on || !on && !nowhere(got) {
				t.Fatalf("P8.1: Affine of %v, line %d: %v", b, k, ok)
			}
		}
	}
	if got, ok := g1.Affine(fp.Elem{}, fp.Elem{}); ok || !nowhere(got) {
		t.Error("P8.1: Affine of 0 and 0")
	}
}

// P8.1: Lift tells the point of x with that y, and the infinite one where there is none.
func TestLift(t *testing.T) {
	r := rand.New(rand.NewSource(4))
	xs := []*big.Int{}
	for n := range int64(40) {
		x := big.NewInt(-1 - n)
		xs = append(xs, big.NewInt(n), x.Mod(x, prime()), new(big.Int).Rand(r, prime()))
	}
	for _, a := range edges()[1:] {
		if !a.infinite() {
			xs = append(xs, a.x)
		}
	}
	found, missed := 0, 0
	for _, x := range xs {
		both := at(x)
		for _, wanted := range []bool{false, true} {
			p, ok := g1.Lift(elem(t, x), wanted)
			if ok != (len(both) > 0) || !ok && !nowhere(p) {
				t.Fatalf("P8.1: Lift of %x: %v", x, ok)
			}
			if !ok {
				missed++
				continue
			}
			found++
			if a := of(p); a.infinite() || a.x.Cmp(x) != 0 || !a.equal(both[0]) && !a.equal(both[1]) || large(a.y) != wanted || !is(t, p, a) {
				t.Fatalf("P8.1: Lift of %x, %v: %v", x, wanted, a)
			}
		}
	}
	if found < 60 || missed < 60 {
		t.Errorf("P8.1: %d points found, %d not", found, missed)
	}
}

// P8.1: Lift written out.
func TestLiftWrittenOut(t *testing.T) {
	down, _ := g1.Lift(fp.Of(0), false)
	up, _ := g1.Lift(fp.Of(0), true)
	minusTwo := new(big.Int).Sub(prime(), big.NewInt(2))
	if !is(t, down, whole{new(big.Int), big.NewInt(2)}) || !is(t, up, whole{new(big.Int), minusTwo}) {
		t.Errorf("P8.1: Lift of 0: %v and %v", of(down), of(up))
	}
	x, _, _ := g1.Generator().XY()
	down, _ = g1.Lift(x, false)
	up, _ = g1.Lift(x, true)
	if !is(t, down, base()) || !is(t, up, base().neg()) {
		t.Errorf("P8.1: Lift of the generator's x: %v and %v", of(down), of(up))
	}
	if p, ok := g1.Lift(fp.Of(1), true); ok || !nowhere(p) { // 5 is no square
		t.Errorf("P8.1: Lift of 1: %v, %v", of(p), ok)
	}
}

// P8.1: points are Equal, if their numbers are, by whatever sums they came.
func TestEqual(t *testing.T) {
	by := point(t, anywhere(rand.New(rand.NewSource(5))))
	for _, c := range pairs(6, 100) {
		a, b := point(t, c[0]), point(t, c[1])
		around := roundabout(t, c[0], by)
		if !a.Equal(a) || !around.Equal(a) || !a.Equal(around) || !is(t, around, c[0]) {
			t.Fatalf("P8.1: %v isn't Equal to itself", c[0])
		}
		want := c[0].equal(c[1])
		if a.Equal(b) != want || b.Equal(a) != want || around.Equal(b) != want || b.Equal(around) != want {
			t.Fatalf("P8.1: Equal of %v and %v: %v", c[0], c[1], !want)
		}
		if a.Equal(a.Neg()) != c[0].infinite() {
			t.Fatalf("P8.1: %v and its negative", c[0])
		}
	}
}

// P8.1: what a call answered stays, and what it was given, whatever becomes of the others.
func TestPointsNotChanged(t *testing.T) {
	for _, c := range every(3, pairs(7, 20)) {
		p, q := point(t, c[0]), point(t, c[1])
		sum, twice, minus, thrice := p.Add(q), p.Double(), p.Neg(), p.Mul([]byte{3})
		p.Equal(q)
		p.InGroup()
		p.MulFr(fr.Of(5))
		if !is(t, p, c[0]) || !is(t, q, c[1]) {
			t.Fatalf("P8.1: %v or %v was changed", c[0], c[1])
		}
		p, q = q.Double(), g1.Infinity()
		if !is(t, sum, c[0].add(c[1])) || !is(t, twice, c[0].add(c[0])) || !is(t, minus, c[0].neg()) || !is(t, thrice, c[0].add(c[0]).add(c[0])) {
			t.Fatalf("P8.2: what was answered of %v and %v has changed: %v, %v", c[0], c[1], of(p), of(q))
		}
	}
}
