package fp12_test

import (
	"bytes"
	"math/big"
	"math/rand"
	"testing"

	"pharos/fp12"
	"pharos/fp6"
)

// P7.1: Pow is that of rows of numbers.
func TestPow(t *testing.T) {
	r := rand.New(rand.NewSource(10))
	for _, x := range few(11, 11, 30) {
		e := make([]byte, r.Intn(20))
		r.Read(e)
		if got := elem(t, x).Pow(e); !is(t, got, x.pow(new(big.Int).SetBytes(e))) {
			t.Fatalf("P7.1: %v to the power of %x: %v", x, e, of(got))
		}
	}
	x := others(12, 1)[0]
	for _, n := range []int{0, 1, 2, 3, 7, 8, 9, 16, 31, 32, 48, 49} {
		for _, e := range [][]byte{bytes.Repeat([]byte{0xff}, n), append([]byte{0x80}, make([]byte, n)...), append(make([]byte, n), 1)} {
			if got := elem(t, x).Pow(e); !is(t, got, x.pow(new(big.Int).SetBytes(e))) {
				t.Fatalf("P7.1: %v to the power of %x: %v", x, e, of(got))
			}
		}
	}
}

// P7.1: small powers, of which each is the last one times the element.
func TestPowSmall(t *testing.T) {
	for _, a := range []fp12.Elem{{}, fp12.One(), {C1: fp6.One()}, elem(t, others(13, 1)[0])} {
		want := fp12.One()
		for n := range 300 {
			for _, e := range [][]byte{{byte(n >> 8), byte(n)}, {0, 0, byte(n >> 8), byte(n)}} {
				if !a.Pow(e).Equal(want) {
					t.Fatalf("P7.1: %v to the power of %d: %v", of(a), n, of(a.Pow(e)))
				}
			}
			if n < 256 && !a.Pow([]byte{byte(n)}).Equal(want) {
				t.Fatalf("P7.1: %v to the power of one byte, %d", of(a), n)
			}
			want = want.Mul(a)
		}
	}
}

// P7.1: to the power of 0 all are 1, be it written by no bytes or by noughts.
func TestPowZero(t *testing.T) {
	for _, x := range edges() {
		for _, e := range [][]byte{nil, {}, {0}, {0, 0}} {
			if got := elem(t, x).Pow(e); !is(t, got, small(1)) {
				t.Errorf("P7.1: %v to the power of %d noughts: %v", x, len(e), of(got))
			}
		}
	}
	if !is(t, fp12.Elem{}.Pow(make([]byte, 1000)), small(1)) {
		t.Error("P7.1: 0 to the power of 1000 noughts isn't 1")
	}
}

// P7.2: to the power of p^12 each is itself, and to that of p^12 - 1 each but 0 is 1; no smaller
// field holds w.
func TestPowOrder(t *testing.T) {
	all := new(big.Int).Exp(prime(), big.NewInt(12), nil)
	less := new(big.Int).Sub(all, big.NewInt(1))
	for _, x := range few(14, 101, 2) {
		a := elem(t, x)
		if !a.Pow(all.Bytes()).Equal(a) {
			t.Errorf("P7.2: %v to the power of p^12", x)
		}
		if !x.isZero() && !is(t, a.Pow(less.Bytes()), small(1)) {
			t.Errorf("P7.2: %v to the power of p^12 - 1", x)
		}
	}
	w := fp12.Elem{C1: fp6.One()}
	for _, n := range []int64{4, 6} {
		if w.Pow(new(big.Int).Exp(prime(), big.NewInt(n), nil).Bytes()).Equal(w) {
			t.Errorf("P7.2: w to the power of p^%d is w", n)
		}
	}
}

// P7.2: Conj is to the power of p^6.
func TestConjAsPow(t *testing.T) {
	sixth := new(big.Int).Exp(prime(), big.NewInt(6), nil)
	for _, x := range few(15, 53, 4) {
		if a := elem(t, x); !a.Conj().Equal(a.Pow(sixth.Bytes())) {
			t.Errorf("P7.2: Conj of %v isn't its power of p^6", x)
		}
	}
}

// P7.1: powers of sums of numbers are products, and powers of products powers of powers.
func TestPowLaws(t *testing.T) {
	r := rand.New(rand.NewSource(16))
	for _, c := range pairs(17, 20)[680:] {
		a, b := elem(t, c[0]), elem(t, c[1])
		m, n := new(big.Int).SetUint64(r.Uint64()), new(big.Int).SetUint64(r.Uint64())
		sum, product := new(big.Int).Add(m, n), new(big.Int).Mul(m, n)
		if !a.Pow(m.Bytes()).Mul(a.Pow(n.Bytes())).Equal(a.Pow(sum.Bytes())) || !a.Pow(m.Bytes()).Pow(n.Bytes()).Equal(a.Pow(product.Bytes())) {
			t.Fatalf("P7.1: powers of %v by %d and %d", c[0], m, n)
		}
		if !a.Mul(b).Pow(m.Bytes()).Equal(a.Pow(m.Bytes()).Mul(b.Pow(m.Bytes()))) {
			t.Fatalf("P7.1: power of %v times %v by %d", c[0], c[1], m)
		}
	}
}

// P7.1: Pow doesn't change what it is given, nor the room behind it, nor does it keep it.
func TestPowListNotChanged(t *testing.T) {
	a := elem(t, others(18, 1)[0])
	room := []byte{9, 200, 0, 1, 77, 78}
	e := room[1:4]
	got := a.Pow(e)
	if !bytes.Equal(room, []byte{9, 200, 0, 1, 77, 78}) {
		t.Errorf("P7.1: Pow changed its list: %v", room)
	}
	clear(room)
	if want := a.Pow([]byte{200, 0, 1}); !got.Equal(want) {
		t.Error("P7.1: Pow kept its list")
	}
}

func BenchmarkPow(b *testing.B) {
	x, e := bench(), prime().Bytes()
	for b.Loop() {
		x = x.Pow(e)
	}
}
