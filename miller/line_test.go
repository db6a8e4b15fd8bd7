package miller_test

import (
	"math/big"
	"math/rand"
	"testing"

	"pharos/fp"
	"pharos/fp12"
	"pharos/fp2"
	"pharos/g1"
	"pharos/g2"
	"pharos/miller"
)

// spots tells points: those of group2, those of small orders, some anywhere, and each of them as a
// sum of others too.
func spots(t *testing.T, r *rand.Rand, count int) []g2.Point {
	t.Helper()
	out := group2(r, count)
	for _, n := range []int64{13, 23, 2713} {
		out = append(out, ofOrder2(t, r, n))
	}
	for range count {
		out = append(out, anywhere2(t, r))
	}
	by := some2(r)
	for _, q := range out[:len(out):len(out)] {
		out = append(out, q.Add(by).Add(by.Neg()), q.Neg())
	}
	return out
}

// tryLine tells whether there is a line through r and q, and fails if it isn't the model's.
func tryLine(t *testing.T, r, q g2.Point, x, y *big.Int) bool {
	t.Helper()
	got, ok := miller.Line(r, q, elem(t, x), elem(t, y))
	want, found := line(spotOf(r), spotOf(q), x, y)
	if ok != found || !got.Equal(elem12(t, want)) {
		t.Fatalf("P11.1: Line of %v and %v at %x, %x: %v", spotOf(r), spotOf(q), x, y, ok)
	}
	return ok
}

// P11.1: Line is the model's at all pairs of points, by whatever sums they came, and at all numbers.
func TestLine(t *testing.T) {
	r := rand.New(rand.NewSource(1))
	all, xs := spots(t, r, 3), numbers(r, 20)
	n, found, missed := 0, 0, 0
	for _, a := range all {
		for _, b := range all {
			if tryLine(t, a, b, xs[n%len(xs)], xs[n/len(xs)%len(xs)]) {
				found++
			} else {
				missed++
			}
			n++
		}
	}
	if found < 1000 || missed < 100 {
		t.Errorf("P11.1: %d lines, %d missing", found, missed)
	}
}

// P11.1: Line takes all numbers, at a chord and at a tangent.
func TestLineAtNumbers(t *testing.T) {
	r := rand.New(rand.NewSource(2))
	a, b := some2(r), anywhere2(t, r)
	for _, x := range numbers(r, 5) {
		for _, y := range numbers(r, 5) {
			if !tryLine(t, a, b, x, y) || !tryLine(t, a, a, x, y) || !tryLine(t, b, b, x, y) {
				t.Fatalf("P11.1: no line at %x, %x", x, y)
			}
		}
	}
}

// P11.1: Line written out: the tangent at the generator, at the other one's numbers.
func TestLineWrittenOut(t *testing.T) {
	x, y, _ := g1.Generator().XY()
	got, ok := miller.Line(g2.Generator(), g2.Generator(), x, y)
	none := small(0, 0)
	want := [6]two{
		{
			hex("4c208bdb300097927393e963768099390a3f9d581d8828070e39167384e44fdaf716fa49d68b0bdf431a2f53189c109"),
			hex("546ca700477f9c2f9def9691be2f7e6eaa0f1474cb64c53ce3b4d4da03cbdac75933b5468ab4b88cf058f147ba2cda9"),
		},
		none,
		{
			hex("11bfe7fb8923ace27a0692871443365b3e5e0dd7ef388153c5bb27d923a3dedb6b9f9cbfd022a8eb913e281a830fac9c"),
			hex("13d0fab25f0e7099c6ffaa8ddd3cb036f5c35df322a9359ff8f98a4f5c6a84c50b6007c296eafda2ffa2d20b253a6633"),
		},
		{
			hex("8b3f481e3aaa0f1a09e30ed741d8ae4fcf5e095d5d00af600db18cb2c04b3edd03cc744a2888ae40caa232946c5e7e1"),
			none.b,
		},
		none,
		none,
	}
	if !ok {
		t.Fatal("P11.1: no tangent at the generator")
	}
	for k, part := range got.Parts() {
		if !numbers2(part).equal(want[k]) {
			t.Errorf("P11.1: the tangent's part %d: %v", k, numbers2(part))
		}
	}
}

// P11.1: where a point is infinite, or they are opposite ones, Line is 1 and false.
func TestLineMissing(t *testing.T) {
	r := rand.New(rand.NewSource(3))
	x, y := elem(t, numbers(r, 1)[0]), fp.Of(5)
	for k, q := range spots(t, r, 2) {
		around := q.Add(g2.Generator()).Add(g2.Generator().Neg())
		for _, c := range [][2]g2.Point{
			{q, q.Neg()}, {q.Neg(), q}, {around, q.Neg()}, {q, around.Neg()},
			{q, g2.Infinity()}, {g2.Infinity(), q}, {q, {}}, {q, q.Add(q.Neg())}, {around.Add(q.Neg()), q},
		} {
			if got, ok := miller.Line(c[0], c[1], x, y); ok || !got.Equal(fp12.One()) {
				t.Fatalf("P11.1: Line of point %d and none, or the opposite one: %v", k, ok)
			}
		}
		if _, ok := miller.Line(q, around, fp.Elem{}, fp.Elem{}); ok == q.IsInfinity() {
			t.Fatalf("P11.1: tangent at point %d: %v", k, ok)
		}
	}
}

// P11.1: points of one y but not of one x have a chord that lies flat.
func TestLineFlat(t *testing.T) {
	r := rand.New(rand.NewSource(4))
	turn := elem(t, hex("5f19672fdf76ce51ba69c6076a0f77eaddb3a93be6f89688de17d813620a00022e01fffffffefffe"))
	for _, a := range []g2.Point{g2.Generator(), some2(r), anywhere2(t, r)} {
		x, y, _ := a.XY()
		b, ok := g2.Affine(x.Scale(turn), y) // turn turn turn is 1
		if !ok || b.Equal(a) {
			t.Fatal("P9.1: Affine of x times a third root of 1")
		}
		got, ok := miller.Line(a, b, fp.Of(7), fp.Of(9))
		want := fp12.Elem{}
		want.C0.C0, want.C1.C1 = y.Neg(), fp2.Elem{C0: fp.Of(9)}
		if !ok || !got.Equal(want) {
			t.Errorf("P11.1: Line of a flat chord: %v", ok)
		}
	}
}

// P11.1: the line through two points is one, whichever is the first, and so is that through either
// and their sum's negative.
func TestLineOfThree(t *testing.T) {
	r := rand.New(rand.NewSource(5))
	for range 20 {
		a, b := some2(r), anywhere2(t, r)
		x, y := elem(t, new(big.Int).Rand(r, prime())), elem(t, new(big.Int).Rand(r, prime()))
		third := a.Add(b).Neg()
		want, ok := miller.Line(a, b, x, y)
		for _, c := range [][2]g2.Point{{b, a}, {a, third}, {third, a}, {b, third}, {third, b}} {
			if got, too := miller.Line(c[0], c[1], x, y); !ok || !too || !got.Equal(want) {
				t.Fatalf("P11.1: lines through two of %v, %v, %v", spotOf(a), spotOf(b), spotOf(third))
			}
		}
		touching, ok := miller.Line(a, a, x, y)
		if got, too := miller.Line(a, a.Double().Neg(), x, y); !ok || !too || !got.Equal(touching) {
			t.Fatalf("P11.1: the tangent at %v", spotOf(a))
		}
	}
}

// P11.1: what Line is given stays as it was, and what it answered stays, whatever comes then.
func TestLineNotChanged(t *testing.T) {
	r := rand.New(rand.NewSource(6))
	a, b := some2(r).Double(), some2(r).Double()
	x, y := fp.Of(3), fp.Of(4)
	first, second := a, b
	one, _ := miller.Line(a, b, x, y)
	kept := one
	miller.Line(a, a, x, y)
	miller.Line(b, a, y, x)
	if a != first || b != second || !x.Equal(fp.Of(3)) || !y.Equal(fp.Of(4)) {
		t.Error("P11.1: Line changed what it was given")
	}
	again, _ := miller.Line(a, b, x, y)
	if !one.Equal(kept) || !again.Equal(kept) {
		t.Error("P11.1: Line's answer hangs on other calls")
	}
}
