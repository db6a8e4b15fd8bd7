package g2_test

import (
	"math/big"
	"math/rand"
	"testing"

	"pharos/fp"
	"pharos/fp2"
	"pharos/fr"
	"pharos/g2"
)

// elem tells the element of numbers below p.
func elem(t testing.TB, x pair) fp2.Elem {
	t.Helper()
	a, ok := fp.From(x.a.FillBytes(make([]byte, 48)))
	b, too := fp.From(x.b.FillBytes(make([]byte, 48)))
	if !ok || !too {
		t.Fatalf("P3.1: From of %x and %x: %v, %v", x.a, x.b, ok, too)
	}
	return fp2.Elem{C0: a, C1: b}
}

// scalar tells the element of fr of a number, modulo r.
func scalar(x *big.Int) fr.Elem { return fr.Wide(x.Bytes()) }

// point tells the point of these numbers.
func point(t testing.TB, a whole) g2.Point {
	t.Helper()
	if a.infinite() {
		return g2.Infinity()
	}
	p, ok := g2.Affine(elem(t, a.x), elem(t, a.y))
	if !ok || p.IsInfinity() {
		t.Fatalf("P9.1: Affine of %v: %v", a, ok)
	}
	return p
}

// roundabout tells the point of these numbers, as a sum of others.
func roundabout(t testing.TB, a whole, by g2.Point) g2.Point {
	t.Helper()
	return point(t, a).Add(by).Add(by.Neg())
}

// ofElem tells the numbers of an element.
func ofElem(x fp2.Elem) pair {
	first, second := x.C0.Bytes(), x.C1.Bytes()
	return pair{new(big.Int).SetBytes(first[:]), new(big.Int).SetBytes(second[:])}
}

// of tells the numbers of a point.
func of(p g2.Point) whole {
	x, y, ok := p.XY()
	if !ok {
		return whole{}
	}
	return whole{ofElem(x), ofElem(y)}
}

// is tells whether a point's numbers are those, and it is theirs by Equal and IsInfinity too.
func is(t testing.TB, p g2.Point, want whole) bool {
	t.Helper()
	return of(p).equal(want) && p.Equal(point(t, want)) && p.IsInfinity() == want.infinite()
}

// nowhere tells whether a point is the infinite one by all that can be asked.
func nowhere(p g2.Point) bool {
	x, y, ok := p.XY()
	return !ok && x.IsZero() && y.IsZero() && p.IsInfinity() && p.Equal(g2.Infinity()) && g2.Infinity().Equal(p)
}

// P9.1: the generator is the chapter's, and new each time.
func TestGenerator(t *testing.T) {
	for range 2 {
		if !is(t, g2.Generator(), base()) || nowhere(g2.Generator()) {
			t.Errorf("P9.1: the generator: %v", of(g2.Generator()))
		}
	}
}

// P9.1: the infinite point, a zero Point, and the sums that come to it, are one.
func TestInfinity(t *testing.T) {
	g := g2.Generator()
	for k, p := range []g2.Point{
		g2.Infinity(), {}, g.Add(g.Neg()), g.Double().Add(g.Neg()).Add(g.Neg()), g.Mul(order().Bytes()),
		g2.Infinity().Double(), g2.Infinity().Neg(), g2.Infinity().Add(g2.Infinity()), g.Mul(nil), g2.Sum(nil),
		g2.Infinity().Mul([]byte{7}), g2.Infinity().MulFr(fr.Of(7)), g.MulFr(fr.Elem{}),
	} {
		if !nowhere(p) || p.Equal(g) || g.Equal(p) || !p.InGroup() {
			t.Errorf("P9.1: the infinite point, line %d: %v", k, of(p))
		}
		if !is(t, p.Add(g), base()) || !is(t, g.Add(p), base()) || !nowhere(p.Add(p)) || !nowhere(p.Double()) || !nowhere(p.Neg()) {
			t.Errorf("P9.2: sums with the infinite point, line %d", k)
		}
	}
}

// P9.1: Affine takes what is on the curve, and XY tells it again.
func TestAffine(t *testing.T) {
	for _, a := range numbers(2, 40) {
		if !is(t, point(t, a), a) {
			t.Fatalf("P9.1: XY of the point of %v: %v", a, of(point(t, a)))
		}
	}
}

// P9.1: Affine refuses what isn't on the curve, which may be another one's, and answers the
// infinite point beside.
func TestAffineRefused(t *testing.T) {
	zero := small(0, 0)
	for _, a := range numbers(3, 40)[1:] {
		if a.infinite() {
			continue
		}
		for k, b := range []whole{
			{a.x, a.y.add(small(1, 0))},
			{a.x, a.y.sub(small(1, 0))},
			{a.x, a.y.add(small(0, 1))},
			{a.x, a.y.add(a.y)},
			{a.x, a.y.mul(small(0, 1))},
			{a.x.add(small(1, 0)), a.y},
			{a.x.add(small(0, 1)), a.y},
			{zero.sub(a.x), a.y},
			{pair{a.x.a, zero.sub(a.x).b}, pair{a.y.a, zero.sub(a.y).b}}, // of the curve with 4 (1 - i)
			{pair{a.x.a, zero.sub(a.x).b}, a.y},
			{pair{a.x.b, a.x.a}, pair{a.y.b, a.y.a}},
			{a.y, a.x},
			{a.x, zero},
			{zero, a.y},
		} {
			on := b.y.mul(b.y).equal(squareAt(b.x))
			got, ok := g2.Affine(elem(t, b.x), elem(t, b.y))
			if ok != on || !on && !nowhere(got) {
				t.Fatalf("P9.1: Affine of %v, line %d: %v", b, k, ok)
			}
		}
	}
	for k, b := range []whole{{zero, zero}, {zero, small(2, 0)}, {zero, small(2, 2)}, {small(0, 1), zero}} {
		if got, ok := g2.Affine(elem(t, b.x), elem(t, b.y)); ok || !nowhere(got) {
			t.Errorf("P9.1: Affine of %v, line %d", b, k)
		}
	}
}

// P9.1: Lift tells the point of x with that y, and the infinite one where there is none.
func TestLift(t *testing.T) {
	r := rand.New(rand.NewSource(4))
	xs := []pair{}
	for n := range int64(15) {
		xs = append(xs, small(n, 0), small(0, n), small(-1-n, 0), small(0, -1-n), small(n, -n), random(r), random(r))
	}
	for _, a := range edges()[1:] {
		if !a.infinite() {
			xs = append(xs, a.x)
		}
	}
	found, missed := 0, 0
	for _, x := range xs {
		both := at(x)
		for _, wanted := range []bool{false, true} {
			p, ok := g2.Lift(elem(t, x), wanted)
			if ok != (len(both) > 0) || !ok && !nowhere(p) {
				t.Fatalf("P9.1: Lift of %v: %v", x, ok)
			}
			if !ok {
				missed++
				continue
			}
			found++
			if a := of(p); a.infinite() || !a.equal(both[0]) && !a.equal(both[1]) || a.y.large() != wanted || !is(t, p, a) {
				t.Fatalf("P9.1: Lift of %v, %v: %v", x, wanted, a)
			}
		}
	}
	if found < 60 || missed < 60 {
		t.Errorf("P9.1: %d points found, %d not", found, missed)
	}
}

// P9.1: Lift written out: of a y without i, and of one with i alone, one is Large too.
func TestLiftWrittenOut(t *testing.T) {
	for k, a := range []whole{realY(), imaginaryY(), base()} {
		down, ok := g2.Lift(elem(t, a.x), false)
		up, too := g2.Lift(elem(t, a.x), true)
		if !ok || !too || !is(t, down, a) || !is(t, up, a.neg()) {
			t.Errorf("P9.1: Lift, line %d: %v and %v", k, of(down), of(up))
		}
	}
	for k, x := range []pair{small(0, 0), small(1, 0), small(0, 2), small(3, 0)} {
		for _, wanted := range []bool{false, true} {
			if p, ok := g2.Lift(elem(t, x), wanted); ok || !nowhere(p) {
				t.Errorf("P9.1: Lift where there is no point, line %d: %v, %v", k, of(p), ok)
			}
		}
	}
}

// P9.1: points are Equal, if their numbers are, by whatever sums they came.
func TestEqual(t *testing.T) {
	by := point(t, anywhere(rand.New(rand.NewSource(5))))
	for _, c := range pairs(6, 40) {
		a, b := point(t, c[0]), point(t, c[1])
		around := roundabout(t, c[0], by)
		if !a.Equal(a) || !around.Equal(a) || !a.Equal(around) || !is(t, around, c[0]) {
			t.Fatalf("P9.1: %v isn't Equal to itself", c[0])
		}
		want := c[0].equal(c[1])
		if a.Equal(b) != want || b.Equal(a) != want || around.Equal(b) != want || b.Equal(around) != want {
			t.Fatalf("P9.1: Equal of %v and %v: %v", c[0], c[1], !want)
		}
		if a.Equal(a.Neg()) != c[0].infinite() {
			t.Fatalf("P9.1: %v and its negative", c[0])
		}
	}
}

// P9.1: what a call answered stays, and what it was given, whatever becomes of the others.
func TestPointsNotChanged(t *testing.T) {
	for _, c := range every(7, pairs(7, 10)) {
		p, q := point(t, c[0]), point(t, c[1])
		sum, twice, minus, thrice := p.Add(q), p.Double(), p.Neg(), p.Mul([]byte{3})
		p.Equal(q)
		p.InGroup()
		p.MulFr(fr.Of(5))
		if !is(t, p, c[0]) || !is(t, q, c[1]) {
			t.Fatalf("P9.1: %v or %v was changed", c[0], c[1])
		}
		p, q = q.Double(), g2.Infinity()
		if !is(t, sum, c[0].add(c[1])) || !is(t, twice, c[0].add(c[0])) || !is(t, minus, c[0].neg()) || !is(t, thrice, c[0].add(c[0]).add(c[0])) {
			t.Fatalf("P9.2: what was answered of %v and %v has changed: %v, %v", c[0], c[1], of(p), of(q))
		}
	}
}
