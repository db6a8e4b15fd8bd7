package pairing_test

import (
	"math/big"
	"math/rand"
	"testing"

	"pharos/fp12"
	"pharos/g1"
	"pharos/g2"
	"pharos/miller"
	"pharos/pairing"
)

// P12.1: the pairing is the power of the pair's value.
func TestPairing(t *testing.T) {
	r := rand.New(rand.NewSource(11))
	pairs := append(somePairs(r, 4), infinite(r)[:4]...)
	for _, n := range []int64{1, 2, 3, -1, -2} {
		pairs = append(pairs, miller.Pair{P: times1(n), Q: some2(r)}, miller.Pair{P: some1(r), Q: times2(n)})
	}
	for k, pair := range pairs {
		if want := value(pair.P, pair.Q).Pow(power().Bytes()); !pairing.Pairing(pair.P, pair.Q).Equal(want) {
			t.Errorf("P12.1: Pairing isn't the power of the value, line %d", k)
		}
	}
}

// P12.1: the generators' pairing, written out: the cube of the curve's well-known one, as the power
// is three times that one's.
func TestPairingWrittenOut(t *testing.T) {
	want := numbers{
		hex("1250ebd871fc0a92a7b2d83168d0d727272d441befa15c503dd8e90ce98db3e7b6d194f60839c508a84305aaca1789b6"),
		hex("89a1c5b46e5110b86750ec6a532348868a84045483c92b7af5af689452eafabf1a8943e50439f1d59882a98eaa0170f"),
		hex("19f26337d205fb469cd6bd15c3d5a04dc88784fbb3d0b2dbdea54d43b2b73f2cbb12d58386a8703e0f948226e47ee89d"),
		hex("6fba23eb7c5af0d9f80940ca771b6ffd5857baaf222eb95a7d2809d61bfe02e1bfd1b68ff02f0b8102ae1c2d5d5ab1a"),
		hex("1368bb445c7c2d209703f239689ce34c0378a68e72a6b3b216da0e22a5031b54ddff57309396b38c881c4c849ec23e87"),
		hex("193502b86edb8857c273fa075a50512937e0794e1e65a7617c90d8bd66065b1fffe51d7a579973b1315021ec3c19934f"),
		hex("11b8b424cd48bf38fcef68083b0b0ec5c81a93b330ee1a677d0d15ff7b984e8978ef48881e32fac91b93b47333e2ba57"),
		hex("3350f55a7aefcd3c31b4fcb6ce5771cc6a0e9786ab5973320c806ad360829107ba810c5a09ffdd9be2291a0c25a99a2"),
		hex("1b2f522473d171391125ba84dc4007cfbf2f8da752f7c74185203fcca589ac719c34dffbbaad8431dad1c1fb597aaa5"),
		hex("18107154f25a764bd3c79937a45b84546da634b8f6be14a8061e55cceba478b23f7dacaa35c8ca78beae9624045b4b6"),
		hex("4c581234d086a9902249b64728ffd21a189e87935a954051c7cdba7b3872629a4fafc05066245cb9108f0242d0fe3ef"),
		hex("f41e58663bf08cf068672cbd01a7ec73baca4d72ca93544deff686bfd6df543d48eaa24afe47e1efde449383b676631"),
	}
	if !pairing.Pairing(g1.Generator(), g2.Generator()).Equal(elem(t, want)) {
		t.Error("P12.1: the generators' pairing")
	}
}

// P12.1: the pairing with an infinite point is 1.
func TestPairingOfInfinite(t *testing.T) {
	r := rand.New(rand.NewSource(12))
	for k, pair := range infinite(r) {
		if !pairing.Pairing(pair.P, pair.Q).Equal(fp12.One()) {
			t.Errorf("P12.1: Pairing with an infinite point, line %d", k)
		}
	}
}

// P12.1: points are the same by whatever sums they came; they are neither changed nor kept.
func TestPairingOfSameOnes(t *testing.T) {
	r := rand.New(rand.NewSource(13))
	x, y, _ := some1(r).XY()
	p, _ := g1.Affine(x, y)
	a, b, _ := some2(r).XY()
	q, _ := g2.Affine(a, b)
	around1, around2 := p.Add(g1.Generator()).Add(times1(-1)), q.Double().Add(q.Neg())
	want := pairing.Pairing(p, q)
	pairing.Pairing(some1(r), some2(r))
	if !pairing.Pairing(around1, q).Equal(want) || !pairing.Pairing(p, around2).Equal(want) || !pairing.Pairing(around1, around2).Equal(want) {
		t.Error("P12.1: Pairing of the same points by other sums")
	}
	hereX, hereY, _ := p.XY()
	thereX, thereY, _ := q.XY()
	if !hereX.Equal(x) || !hereY.Equal(y) || !thereX.Equal(a) || !thereY.Equal(b) || !pairing.Pairing(p, q).Equal(want) {
		t.Error("P12.1: Pairing changed its points, or isn't the same again")
	}
}

// P12.2: the generators' pairing isn't 1, nor is that of other points, and its power r is.
func TestPairingOrder(t *testing.T) {
	r := rand.New(rand.NewSource(14))
	for k, pair := range append(somePairs(r, 3), generators()) {
		e := pairing.Pairing(pair.P, pair.Q)
		if e.Equal(fp12.One()) || e.IsZero() || !e.Pow(order().Bytes()).Equal(fp12.One()) {
			t.Errorf("P12.2: a pairing's order, line %d", k)
		}
	}
}

// P12.2: the pairing of a times and b times is that to the power of a b, for all sorts of a and b.
func TestPairingOfTimes(t *testing.T) {
	r := rand.New(rand.NewSource(15))
	one := big.NewInt(1)
	scalars := []*big.Int{
		new(big.Int), one, big.NewInt(2), hex("d201000000010000"),
		new(big.Int).Sub(order(), one), order(), new(big.Int).Add(order(), one),
		scalar(r), scalar(r),
	}
	for _, pair := range append(somePairs(r, 1), generators()) {
		p, q := pair.P, pair.Q
		e := pairing.Pairing(p, q)
		for k, a := range scalars {
			b := scalars[(4*k+7)%len(scalars)]
			both := new(big.Int).Mul(a, b)
			want := e.Pow(both.Bytes())
			for _, got := range []fp12.Elem{
				pairing.Pairing(p.Mul(a.Bytes()), q.Mul(b.Bytes())),
				pairing.Pairing(p.Mul(b.Bytes()), q.Mul(a.Bytes())),
				pairing.Pairing(p.Mul(both.Bytes()), q),
				pairing.Pairing(p, q.Mul(both.Bytes())),
			} {
				if !got.Equal(want) {
					t.Errorf("P12.2: the pairing of %x times and %x times", a, b)
				}
			}
		}
	}
}

// P12.2: the pairing of a sum is the product, on either side; of a negative it is the inverse.
func TestPairingOfSums(t *testing.T) {
	r := rand.New(rand.NewSource(16))
	for range 5 {
		p, q, other, another := some1(r), some2(r), some1(r), some2(r)
		e := pairing.Pairing(p, q)
		if !pairing.Pairing(p.Add(other), q).Equal(e.Mul(pairing.Pairing(other, q))) {
			t.Error("P12.2: the pairing of a sum of g1")
		}
		if !pairing.Pairing(p, q.Add(another)).Equal(e.Mul(pairing.Pairing(p, another))) {
			t.Error("P12.2: the pairing of a sum of g2")
		}
		if !pairing.Pairing(p.Neg(), q).Equal(e.Inv()) || !pairing.Pairing(p, q.Neg()).Equal(e.Inv()) || !pairing.Pairing(p.Neg(), q.Neg()).Equal(e) {
			t.Error("P12.2: the pairing of a negative")
		}
	}
}

// Pairing takes points outside of the groups, too: it ends, and answers the same again.
func TestPairingOutside(t *testing.T) {
	p, q := outside1(t), outside2(t)
	for k, got := range [][2]fp12.Elem{
		{pairing.Pairing(p, q), pairing.Pairing(p, q)},
		{pairing.Pairing(p, g2.Generator()), pairing.Pairing(p, g2.Generator())},
		{pairing.Pairing(g1.Generator(), q), pairing.Pairing(g1.Generator(), q)},
		{pairing.Pairing(p, g2.Infinity()), pairing.Pairing(p, g2.Infinity())},
		{pairing.Pairing(g1.Infinity(), q), pairing.Pairing(g1.Infinity(), q)},
	} {
		if !got[0].Equal(got[1]) {
			t.Errorf("P12.1: Pairing outside of the groups isn't the same again, line %d", k)
		}
	}
}

func BenchmarkPairing(b *testing.B) {
	p, q := g1.Generator(), g2.Generator()
	for b.Loop() {
		pairing.Pairing(p, q)
	}
}
