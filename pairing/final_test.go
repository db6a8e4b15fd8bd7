package pairing_test

import (
	"math/big"
	"math/rand"
	"testing"

	"pharos/fp12"
	"pharos/pairing"
)

// tryFinal fails if Final of f isn't its power 3 (p^12 - 1)/r.
func tryFinal(t *testing.T, f fp12.Elem) {
	t.Helper()
	if !pairing.Final(f).Equal(f.Pow(power().Bytes())) {
		t.Errorf("P12.1: Final of %v", f)
	}
}

// P12.1: Final is the power, of any elements.
func TestFinal(t *testing.T) {
	r := rand.New(rand.NewSource(1))
	for range 4 {
		tryFinal(t, elem(t, some(r)))
	}
}

// P12.1: Final is the power at the field's edges: few parts, small ones, and those just below p.
func TestFinalOfEdges(t *testing.T) {
	for _, n := range []numbers{
		small(),
		small(1),
		small(-1),
		small(2),
		small(0, 1),
		small(1, 1),
		small(0, 0, 1),
		small(1, 0, 1),
		small(1, 0, -1),
		small(0, 0, 0, 0, 1),
		small(0, 0, 0, 0, 1, 0, 1),
		small(0, 0, 0, 0, 0, 0, 0, 0, 0, 0, 0, 1),
		small(1, 1, 1, 1, 1, 1, 1, 1, 1, 1, 1, 1),
		small(-1, -1, -1, -1, -1, -1, -1, -1, -1, -1, -1, -1),
		small(1, 2, 3, 4, 5, 6, 7, 8, 9, 10, 11, 12),
	} {
		tryFinal(t, elem(t, n))
	}
}

// P12.1: Final is the power by numbers modulo p, without any layer's help.
func TestFinalByNumbers(t *testing.T) {
	r := rand.New(rand.NewSource(2))
	for _, n := range []numbers{some(r), some(r), small(2, 0, 0, 0, 0, -3, 1)} {
		if want := elem(t, n.row().pow(power()).numbers()); !pairing.Final(elem(t, n)).Equal(want) {
			t.Errorf("P12.1: Final of %x", n)
		}
	}
}

// P12.1: Final of 1 + w, written out.
func TestFinalWrittenOut(t *testing.T) {
	want := numbers{
		hex("b8be794da02922893738f0a5674401f2e93539b06ac2ed4f030058fe0a51e1b944aec87fde4da5a0efe781726a5a6e9"),
		hex("c8b6d348386d851663a6fa424a9bc27825c7dee4a8882a9fc2cab04774e0274ecc514850cb97441fb122164cea00a92"),
		hex("10c13f5f5d3f2f60b48d34e98f63c6dbf558adb2d2ab5e304b4e375a64be1b9f432d7b44197dc85d10b604738a86def7"),
		hex("3bcce2d81727aefd3037e26ceb02d62ffc32d3738c49937011f24ecfb4293dd6817a31849eaff4a29f8be68ca1f3cdf"),
		hex("756dc496bdf1167e02f998f70a42690e87a420f9f17ed4550bc5d375ad3fbbd64635719eb71dcedfa55762ae4f54ff6"),
		hex("17936b8062a15334b318791cb892a826150edb194ccb8fd2bc62072f6cb813e69cd500e59abf7a505094ecc73638fb13"),
		hex("cae55a0a48203ffefc82e7df9249f59802aa0aa6868be6b035a9dfb677f613a264387af0e2d4cf39a1ecdb366c6fc51"),
		hex("c04a2e056d0ca4f365934cdeba175d9360ca44bafd0581ec3d1a4f53ce6277fc7401071811d2a7691112628f4aaad6d"),
		hex("824f41aa602ceedd2d886584a9c1960c1b7105f3896ff1d5417383204b0e619c50a21cc5bba6a359cd008b8df108d30"),
		hex("e3292f4a18c479b64d4a943986aaea178fc1661a1b27498e33a7f481ddc6311fb6b1f87fa157bc91292ca6750eb10c4"),
		hex("612a74eab809512eeb6dd4576af494c2e5d0d8e6e3e1aca95b27dd7529f015e203d695f4c0945d80803b49d8599653a"),
		hex("134ab07ca1e50b5c8d22e40a432259e9c0f500d63c75f1e2eab86d2695e82bca7c7da893269656932095790c258f86b"),
	}
	if !pairing.Final(elem(t, small(1, 0, 1))).Equal(elem(t, want)) {
		t.Error("P12.1: Final of 1 + w")
	}
}

// P12.1: Final of 0 is 0, and of no other: of those that a smaller field holds it is 1.
func TestFinalOfSmallerFields(t *testing.T) {
	if !pairing.Final(fp12.Elem{}).IsZero() {
		t.Error("P12.1: Final of 0")
	}
	r := rand.New(rand.NewSource(3))
	for range 5 {
		f := elem(t, some(r))
		norm := f.Mul(f.Conj())
		for k, inside := range []fp12.Elem{
			elem(t, small(1+r.Int63())),
			elem(t, small(r.Int63(), 1+r.Int63())),
			{C0: f.C0},
			norm,
			norm.Mul(norm.Frob(3)),
			norm.Mul(norm.Frob(2)).Mul(norm.Frob(4)),
			f.Mul(f.Frob(4)).Mul(f.Frob(8)),
		} {
			if !pairing.Final(inside).Equal(fp12.One()) {
				t.Errorf("P12.1: Final of one of a smaller field, line %d", k)
			}
		}
		if e := pairing.Final(f); e.IsZero() || e.Equal(fp12.One()) {
			t.Error("P12.1: Final of one that no smaller field holds")
		}
	}
}

// P12.1: a power of a product is the product of powers; each of them to the power of r is 1, and
// Final of a power of r is 1.
func TestFinalLaws(t *testing.T) {
	r := rand.New(rand.NewSource(4))
	for range 5 {
		f, g := elem(t, some(r)), elem(t, some(r))
		a, b := pairing.Final(f), pairing.Final(g)
		if !pairing.Final(f.Mul(g)).Equal(a.Mul(b)) || !pairing.Final(f.Inv()).Equal(a.Inv()) || !pairing.Final(f.Conj()).Equal(a.Inv()) {
			t.Error("P12.1: Final of a product, or of an inverse")
		}
		for n := range 12 {
			if !pairing.Final(f.Frob(n)).Equal(a.Frob(n)) {
				t.Errorf("P12.1: Final of a power of p^%d", n)
			}
		}
		if !a.Pow(order().Bytes()).Equal(fp12.One()) || !pairing.Final(f.Pow(order().Bytes())).Equal(fp12.One()) {
			t.Error("P12.1: Final and the power of r")
		}
		again := new(big.Int).Mod(power(), order())
		if !pairing.Final(a).Equal(a.Pow(again.Bytes())) {
			t.Error("P12.1: Final of Final")
		}
	}
}

// P12.1: Final answers the same again, and leaves what it was handed.
func TestFinalAgain(t *testing.T) {
	r := rand.New(rand.NewSource(5))
	f, g := elem(t, some(r)), elem(t, some(r))
	before, want := f, pairing.Final(f)
	pairing.Final(g)
	if !f.Equal(before) || !pairing.Final(f).Equal(want) {
		t.Error("P12.1: Final again")
	}
}

func BenchmarkFinal(b *testing.B) {
	f := elem(b, some(rand.New(rand.NewSource(6))))
	for b.Loop() {
		pairing.Final(f)
	}
}
