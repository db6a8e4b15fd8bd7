package swu_test

import (
	"math/big"
	"testing"

	"pharos/fp2"
	"pharos/swu"
)

// made tells Swu's numbers.
func made(t testing.TB, u pair) whole {
	t.Helper()
	x, y := swu.Swu(elem(t, u))
	return whole{of(x), of(y)}
}

// P14.1: Swu is the chapter's, with each of both x about as often.
func TestSwu(t *testing.T) {
	count := [2]int{}
	for _, u := range numbers(1, 300) {
		want, first := madeOf(u)
		if got := made(t, u); !got.equal(want) {
			t.Fatalf("P14.1: Swu of %v: %v, not %v", u, got, want)
		}
		if first {
			count[0]++
		} else {
			count[1]++
		}
	}
	if count[0] < 100 || count[1] < 100 {
		t.Errorf("P14.1: the first x %d times, the second one %d times", count[0], count[1])
	}
}

// P14.1: what Swu tells is a point of the other curve, and its y has u's sign.
func TestSwuOnCurve(t *testing.T) {
	signs := [2]int{}
	for _, u := range numbers(2, 300) {
		got := made(t, u)
		if !got.y.mul(got.y).equal(squareAt(got.x)) || got.y.isZero() {
			t.Fatalf("P14.1: Swu of %v isn't on the other curve: %v", u, got)
		}
		if got.y.sgn() != u.sgn() {
			t.Fatalf("P14.1: Swu of %v has the other sign: %v", u, got)
		}
		signs[u.sgn()]++
	}
	if signs[0] < 100 || signs[1] < 100 {
		t.Errorf("P14.1: how often each sign: %v", signs)
	}
}

// P14.1: numbers of the other sign have the same x, and the other y.
func TestSwuOtherSign(t *testing.T) {
	for _, u := range numbers(3, 200) {
		if u.isZero() {
			continue
		}
		if one, other := made(t, u), made(t, u.neg()); !other.equal(one.neg()) {
			t.Fatalf("P14.1: Swu of %v: %v, of its negative: %v", u, one, other)
		}
	}
}

// P14.1: of 0 x is B/(Z A), and y has the sign 0.
func TestSwuOfZero(t *testing.T) {
	want := whole{
		long("1a59d4b6bbf912a32d63b43028e2deeebe8d5d97ca64b6d66f64ac7a265a9305e1a40da5edb81b4e3ac4f5c28f5bd27", "15103a07f641331bb298f5ed3ba1230aa0bcc9f87d923077324df24a0f7ffa93045d3d6f94c17ae10efa11eb851e7336"),
		long("1776b5d3dd70bb2ac6e46be0849209c9c47853350da878bdc14a5042102f1f01cbc75043b8d13d709dd5ca27f92cb390", "2c094c100c4f8a157767045bc04279dd04f207fbddc4de6675911b512cddacc0061215698453b5b11125516029e4d21"),
	}
	if !want.x.mul(curveZ()).mul(curveA()).equal(curveB()) {
		t.Fatalf("what is written out isn't B/(Z A): %v", want.x)
	}
	one := fp2.One()
	for k, zero := range []fp2.Elem{{}, one.Sub(one), fp2.Elem{}.Neg()} {
		x, y := swu.Swu(zero)
		if got := (whole{of(x), of(y)}); !got.equal(want) {
			t.Errorf("P14.1: Swu of 0, line %d: %v", k, got)
		}
	}
}

// P14.1: t is 0 of 0 alone: -1/Z has no root, so that no other number has Z u u = -1.
func TestOnlyZeroHasNoT(t *testing.T) {
	if len(curveZ().roots()) > 0 || len(curveZ().over().neg().roots()) > 0 {
		t.Error("Z or -1/Z has a root")
	}
}

// cubic: a polynomial of x modulo g, the lowest coefficient first.
type cubic [3]pair

// mul tells the product: x x x is -(A x + B).
func (f cubic) mul(h cubic) cubic {
	var out [5]pair
	for k := range out {
		out[k] = small(0, 0)
	}
	for j, a := range f {
		for k, b := range h {
			out[j+k] = out[j+k].add(a.mul(b))
		}
	}
	for k := 4; k >= 3; k-- {
		out[k-2] = out[k-2].sub(out[k].mul(curveA()))
		out[k-3] = out[k-3].sub(out[k].mul(curveB()))
	}
	return cubic{out[0], out[1], out[2]}
}

// P14.1: a root 0 doesn't come, as g(x) is 0 nowhere: g has one factor or three, since its
// discriminant is a square, and with three of them x to the power of p p were x, modulo g.
func TestNoRootIsZero(t *testing.T) {
	aaa := curveA().mul(curveA()).mul(curveA())
	bb := curveB().mul(curveB())
	if len(small(-4, 0).mul(aaa).add(small(-27, 0).mul(bb)).roots()) != 2 {
		t.Error("the discriminant isn't a square")
	}
	x := cubic{small(0, 0), small(1, 0), small(0, 0)}
	power, e := x, new(big.Int).Mul(prime(), prime())
	for bit := e.BitLen() - 2; bit >= 0; bit-- {
		if power = power.mul(power); e.Bit(bit) == 1 {
			power = power.mul(x)
		}
	}
	if power[0].isZero() && power[1].equal(small(1, 0)) && power[2].isZero() {
		t.Error("g is 0 somewhere")
	}
}

// P14.1: roots with one part alone, so that their sign is that part's: y is 1, 10 i and 13 i, by
// the first x and by the second one.
func TestSwuRootsOfOnePart(t *testing.T) {
	realX := long("30745c016771e3b95f311821bb52033a3a2fb3d9eb36e2d6f5a282e8a29ecbd73ae47997838007b9f9c2b898f56cab", "5f503bbf7e90c0d1fb04708156933e34da9f840e350e491fb0982920900be6d2365f76121a8a6b3236a4193c7d58739")
	evenX := long("17d8096ed0a5a3e4c2989fd2ae961ef5bff2d50eb6658256e6c443848c7d7360b996e218d827f9a19f6d7d5c14fa8399", "1925a8cb1d83119d18211a572bf455def291e7fef6264474c715d4affc504a2d00ccda748e039c8c84b3868597f423a4")
	oddX := long("11063ae7e6f0f135614bb4d6b5457422c532c821c08c4e502f8d8f4aa1cc030340e04947d970daaaeb3f3aa0c41f7bd6", "de254c80880bd28d8aa7ac5eeef9ac06114f9d6b117833d69255bce286707060ba86ceab7cfb55199e2cb1af803ee45")
	for k, c := range []struct {
		u     pair
		want  whole
		first bool
	}{
		{long("19a020582e46c754628ac8de619304ed12d47aaa51c2182e9d90b69ee38f0a3df03be619dff8206a470015a5a938b935", "11d66632990aa861d133f10c983943c98c702fbf59097ece345af776f1010185bdc874a24a9bfdf170ecd3192d7e9aea"), whole{realX, small(1, 0)}, true},
		{long("13700136b36c660aa2e503d3c67b7365de2cc3401e8a3117e04b70d436f3ba009eb2569207eb81ff462a56898da1d3af", "157514fe8ab38b40aa462f0353459a0c3fd33264b978f5e985d124fcb117b3d0c13ff00e460adcf970c01aca16898987"), whole{realX, small(1, 0)}, false},
		{long("62c588d327798e0926b1381e2955ae8ce107aad86e3de01204a751ecf54cd5e63f51f5f037ae442ad80b7ba2eecf84e", "af98b344684d14d7db1fa39864eba89b4090c397835726f49ad222f69608b92f3ff82852e2dcf24e685da2d407f0e6d"), whole{evenX, small(0, 10)}, true},
		{long("8e83c7cd89af73a5d24d52af2d19da336b63c3cdb4c136970f5c0b23b7304515624aaa02b882ef15077b3d377aafc40", "10bc3541eeda622506d63b300ce0dfc20b19a5f9ef193e61f9b50e4d1fe2072181b7ca8c5f49830238aac1264586237e"), whole{evenX, small(0, 10)}, false},
		{long("e638f635769189516039de3b90b061533abfe098ac1c28f908c7c976a885d837cf2ebf23eee2427676863e1150d1b73", "1cde29412ee3dcf9900e728c0e1ce31eabd198138282791eeb1c376029ff48de90744728b7ed1c93570b9ab8cadf09"), whole{oddX, small(0, 13)}, true},
		{long("26993f77b21757dbd229a3da7a02d8f66314fcb3ff84d63f17da4c2a880391a848ed3bce32117e413bb10d2dfa1ae55", "727d6c9324fd32775f60d8cec01d6140365e254b82a488bf4aac0482266b7fa395cb99884fcc9825a383616f4c37a64"), whole{oddX, small(0, 13)}, false},
	} {
		if _, first := madeOf(c.u); first != c.first {
			t.Errorf("line %d is of the other x", k)
		}
		if got := made(t, c.u); !got.equal(c.want) {
			t.Errorf("P14.1: Swu, line %d: %v", k, got)
		}
		if got := made(t, c.u.neg()); !got.equal(c.want.neg()) {
			t.Errorf("P14.1: Swu of the negative, line %d: %v", k, got)
		}
	}
}

// P14.1: numbers with one part alone, whose sign is that part's.
func TestSwuOfOnePart(t *testing.T) {
	for n := int64(-40); n <= 40; n++ {
		for _, u := range []pair{small(n, 0), small(0, n)} {
			want, _ := madeOf(u)
			if got := made(t, u); !got.equal(want) || got.y.sgn() != u.sgn() {
				t.Fatalf("P14.1: Swu of %v: %v", u, got)
			}
		}
	}
}
