package swu_test

import (
	"math/rand"
	"testing"

	"pharos/g2"
	"pharos/swu"
)

// brought tells Iso's numbers.
func brought(t testing.TB, a whole) whole {
	t.Helper()
	return ofPoint(swu.Iso(elem(t, a.x), elem(t, a.y)))
}

// pole tells the x of which both denominators are 0.
func pole() pair { return small(-6, 6) }

// aboutPole tells numbers beside the pole, and such as a wrong sign would make of it.
func aboutPole() []pair {
	out := []pair{pole().neg(), small(6, 6), small(-6, -6), small(-12, 12), small(12, -12), small(0, 72), small(0, -72)}
	for n := int64(-8); n <= 8; n++ {
		for m := int64(-8); m <= 8; m++ {
			if n != 0 || m != 0 {
				out = append(out, pole().add(small(n, m)))
			}
		}
	}
	return out
}

// P14.2: Iso is the chapter's, of points of the other curve, and tells points of g2's.
func TestIso(t *testing.T) {
	all := otherPoints(append(numbers(4, 200), aboutPole()...))
	if len(all) < 300 {
		t.Fatalf("%d points alone", len(all))
	}
	for _, a := range all {
		want, got := broughtOver(a), brought(t, a)
		if !got.equal(want) || got.infinite() {
			t.Fatalf("P14.2: Iso of %v: %v, not %v", a, got, want)
		}
		if !got.y.mul(got.y).equal(got.x.mul(got.x).mul(got.x).add(small(4, 4))) {
			t.Fatalf("P14.2: Iso of %v isn't on the curve: %v", a, got)
		}
	}
}

// P14.2: the opposite point is brought to the opposite one.
func TestIsoOpposite(t *testing.T) {
	for _, a := range otherPoints(numbers(5, 50)) {
		if one, other := brought(t, a), brought(t, a.neg()); !other.equal(one.neg()) {
			t.Fatalf("P14.2: Iso of %v: %v, of the opposite one: %v", a, one, other)
		}
	}
}

// P14.2: sums are brought to sums, as it is with such fractions alone whose coefficients all fit.
func TestIsoOfSums(t *testing.T) {
	r := rand.New(rand.NewSource(6))
	all := otherPoints(numbers(7, 50))
	iso := func(a whole) g2.Point {
		if a.infinite() {
			return g2.Infinity()
		}
		return swu.Iso(elem(t, a.x), elem(t, a.y))
	}
	for range 300 {
		a, b := all[r.Intn(len(all))], all[r.Intn(len(all))]
		if !iso(a.add(b)).Equal(iso(a).Add(iso(b))) {
			t.Fatalf("P14.2: Iso of the sum of %v and %v", a, b)
		}
		if !iso(a.add(a)).Equal(iso(a).Double()) {
			t.Fatalf("P14.2: Iso of twice %v", a)
		}
	}
}

// P14.2: where a denominator is 0 Iso tells the infinite point, whatever y is.
func TestIsoAtThePole(t *testing.T) {
	_, xd, _, yd := coefficients()
	if !at(xd, pole()).isZero() || !at(yd, pole()).isZero() || len(otherPoints([]pair{pole()})) > 0 {
		t.Error("the model isn't 0 at the pole, or the other curve has a point there")
	}
	for _, y := range append(numbers(8, 100), small(2, 2), small(-2, -2), pole()) {
		p := swu.Iso(elem(t, pole()), elem(t, y))
		if !p.IsInfinity() || !p.Equal(g2.Infinity()) || !ofPoint(p).infinite() {
			t.Fatalf("P14.2: Iso at the pole, y %v: %v", y, ofPoint(p))
		}
	}
}

// P14.2: there is but one place where a denominator is 0: they are the square and the cube of x
// less the pole.
func TestOnePole(t *testing.T) {
	_, xd, _, yd := coefficients()
	for _, x := range numbers(9, 50) {
		d := x.sub(pole())
		if !at(xd, x).equal(d.mul(d)) || !at(yd, x).equal(d.mul(d).mul(d)) {
			t.Fatalf("the denominators at %v", x)
		}
	}
}

// P14.2: of numbers that are no point of the other curve Iso ends.
func TestIsoOfNoPoint(t *testing.T) {
	r := rand.New(rand.NewSource(10))
	for _, x := range append(numbers(11, 50), aboutPole()...) {
		for _, y := range []pair{small(0, 0), small(1, 0), x, random(r)} {
			brought(t, whole{x, y})
		}
	}
}
