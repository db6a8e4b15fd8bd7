package miller_test

import (
	"math/big"
	"math/rand"
	"testing"

	"pharos/fp12"
	"pharos/g1"
	"pharos/g2"
	"pharos/miller"
)

// pairing tells chapter 12's power of Loop of one pair.
func pairing(p g1.Point, q g2.Point) fp12.Elem {
	return final(miller.Loop([]miller.Pair{{P: p, Q: q}}))
}

// The power that these tests take of what Loop answers is chapter 12's.
func TestPower(t *testing.T) {
	r := rand.New(rand.NewSource(18))
	f := miller.Loop(somePairs(r, 1))
	if !final(f).Equal(f.Pow(power().Bytes())) || !final(fp12.Elem{}).IsZero() {
		t.Error("P7.1: powers of p and others don't come to the power of their product")
	}
}

// P11.3: the pairing of the generators, written out: the cube of the curve's well-known one, as the
// power is three times that one's.
func TestPairingWrittenOut(t *testing.T) {
	want := [6]two{
		{
			hex("1250ebd871fc0a92a7b2d83168d0d727272d441befa15c503dd8e90ce98db3e7b6d194f60839c508a84305aaca1789b6"),
			hex("89a1c5b46e5110b86750ec6a532348868a84045483c92b7af5af689452eafabf1a8943e50439f1d59882a98eaa0170f"),
		},
		{
			hex("19f26337d205fb469cd6bd15c3d5a04dc88784fbb3d0b2dbdea54d43b2b73f2cbb12d58386a8703e0f948226e47ee89d"),
			hex("6fba23eb7c5af0d9f80940ca771b6ffd5857baaf222eb95a7d2809d61bfe02e1bfd1b68ff02f0b8102ae1c2d5d5ab1a"),
		},
		{
			hex("1368bb445c7c2d209703f239689ce34c0378a68e72a6b3b216da0e22a5031b54ddff57309396b38c881c4c849ec23e87"),
			hex("193502b86edb8857c273fa075a50512937e0794e1e65a7617c90d8bd66065b1fffe51d7a579973b1315021ec3c19934f"),
		},
		{
			hex("11b8b424cd48bf38fcef68083b0b0ec5c81a93b330ee1a677d0d15ff7b984e8978ef48881e32fac91b93b47333e2ba57"),
			hex("3350f55a7aefcd3c31b4fcb6ce5771cc6a0e9786ab5973320c806ad360829107ba810c5a09ffdd9be2291a0c25a99a2"),
		},
		{
			hex("1b2f522473d171391125ba84dc4007cfbf2f8da752f7c74185203fcca589ac719c34dffbbaad8431dad1c1fb597aaa5"),
			hex("18107154f25a764bd3c79937a45b84546da634b8f6be14a8061e55cceba478b23f7dacaa35c8ca78beae9624045b4b6"),
		},
		{
			hex("4c581234d086a9902249b64728ffd21a189e87935a954051c7cdba7b3872629a4fafc05066245cb9108f0242d0fe3ef"),
			hex("f41e58663bf08cf068672cbd01a7ec73baca4d72ca93544deff686bfd6df543d48eaa24afe47e1efde449383b676631"),
		},
	}
	for k, part := range pairing(g1.Generator(), g2.Generator()).Parts() {
		if !numbers2(part).equal(want[k]) {
			t.Errorf("P11.3: the generators' pairing, part %d: %v", k, numbers2(part))
		}
	}
}

// P11.3: the generators' pairing isn't 1, and its power r is.
func TestPairingOrder(t *testing.T) {
	r := rand.New(rand.NewSource(15))
	for k, pair := range append(somePairs(r, 2), miller.Pair{P: g1.Generator(), Q: g2.Generator()}) {
		e := pairing(pair.P, pair.Q)
		if e.Equal(fp12.One()) || !e.Pow(order().Bytes()).Equal(fp12.One()) {
			t.Errorf("P11.3: a pairing's order, line %d", k)
		}
	}
}

// P11.3: the pairing of a times and b times is that to the power of a b.
func TestPairingOfTimes(t *testing.T) {
	r := rand.New(rand.NewSource(16))
	p, q := some1(r), some2(r)
	e := pairing(p, q)
	last := new(big.Int).Sub(order(), big.NewInt(1))
	scalars := []*big.Int{new(big.Int), big.NewInt(1), big.NewInt(2), loopNumber(), last, scalar(r), scalar(r)}
	for k, a := range scalars {
		b := scalars[(3*k+2)%len(scalars)]
		both := new(big.Int).Mul(a, b)
		want := e.Pow(both.Mod(both, order()).Bytes())
		for _, c := range []fp12.Elem{
			pairing(p.Mul(a.Bytes()), q.Mul(b.Bytes())),
			pairing(p.Mul(b.Bytes()), q.Mul(a.Bytes())),
			pairing(p.Mul(both.Bytes()), q),
			pairing(p, q.Mul(both.Bytes())),
		} {
			if !c.Equal(want) {
				t.Fatalf("P11.3: the pairing of %x times and %x times", a, b)
			}
		}
	}
}

// P11.3: the pairing of a sum is the product, on either side; of a negative it is the inverse.
func TestPairingOfSums(t *testing.T) {
	r := rand.New(rand.NewSource(17))
	for range 3 {
		p, q, other, another := some1(r), some2(r), some1(r), some2(r)
		if !pairing(p.Add(other), q).Equal(pairing(p, q).Mul(pairing(other, q))) {
			t.Error("P11.3: the pairing of a sum of g1")
		}
		if !pairing(p, q.Add(another)).Equal(pairing(p, q).Mul(pairing(p, another))) {
			t.Error("P11.3: the pairing of a sum of g2")
		}
		for k, l := range [][]miller.Pair{
			{{P: p, Q: q}, {P: p.Neg(), Q: q}},
			{{P: p, Q: q}, {P: p, Q: q.Neg()}},
			{{P: p, Q: q}, {P: other, Q: q}, {P: p.Add(other).Neg(), Q: q}},
			{{P: p, Q: q}, {P: p, Q: another}, {P: p, Q: q.Add(another).Neg()}},
			{{P: p.Double(), Q: q}, {P: p.Neg(), Q: q.Double()}},
		} {
			if !alike(miller.Loop(l), fp12.One()) {
				t.Errorf("P11.3: pairs whose pairings come to 1, line %d", k)
			}
			if alike(miller.Loop(l[1:]), fp12.One()) {
				t.Errorf("P11.3: pairs whose pairings don't come to 1, line %d", k)
			}
		}
	}
}
