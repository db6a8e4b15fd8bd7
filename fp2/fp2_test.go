package fp2_test

import (
	"bytes"
	"fmt"
	"math/big"
	"math/rand"
	"testing"

	"pharos/fp"
	"pharos/fp2"
)

// prime tells p.
func prime() *big.Int {
	p, _ := new(big.Int).SetString("1a0111ea397fe69a4b1ba7b6434bacd764774b84f38512bf6730d2a0f6b0f6241eabfffeb153ffffb9feffffffffaaab", 16)
	return p
}

// from tells p, halved so many times, and n more.
func from(halved uint, n int64) *big.Int {
	x := prime()
	return x.Rsh(x, halved).Add(x, big.NewInt(n))
}

// whole: x + y i, of numbers.
type whole struct{ x, y *big.Int }

// small tells x + y i.
func small(x, y int64) whole { return whole{big.NewInt(x), big.NewInt(y)} }

// String tells it as text.
func (a whole) String() string { return fmt.Sprintf("%x + %x i", a.x, a.y) }

// mod tells it modulo p.
func (a whole) mod() whole {
	return whole{new(big.Int).Mod(a.x, prime()), new(big.Int).Mod(a.y, prime())}
}

func (a whole) add(b whole) whole {
	return whole{new(big.Int).Add(a.x, b.x), new(big.Int).Add(a.y, b.y)}.mod()
}

func (a whole) sub(b whole) whole {
	return whole{new(big.Int).Sub(a.x, b.x), new(big.Int).Sub(a.y, b.y)}.mod()
}

// mul tells the product, by the four products of the parts.
func (a whole) mul(b whole) whole {
	xx, yy := new(big.Int).Mul(a.x, b.x), new(big.Int).Mul(a.y, b.y)
	xy, yx := new(big.Int).Mul(a.x, b.y), new(big.Int).Mul(a.y, b.x)
	return whole{xx.Sub(xx, yy), xy.Add(xy, yx)}.mod()
}

// pow tells it to the power of a number, bit by bit.
func (a whole) pow(e *big.Int) whole {
	out := small(1, 0)
	for n := e.BitLen() - 1; n >= 0; n-- {
		out = out.mul(out)
		if e.Bit(n) == 1 {
			out = out.mul(a)
		}
	}
	return out
}

func (a whole) isZero() bool { return a.x.Sign() == 0 && a.y.Sign() == 0 }

func (a whole) equal(b whole) bool { return a.x.Cmp(b.x) == 0 && a.y.Cmp(b.y) == 0 }

// parts: numbers below p about its ends, about its half, and about the ends of limbs.
func parts() []*big.Int {
	out := []*big.Int{from(0, -1), from(0, -2), from(1, 0), from(1, 1), from(2, 0)}
	for n := range int64(4) {
		out = append(out, big.NewInt(n))
	}
	for _, n := range []uint{64, 384} {
		x := new(big.Int).Lsh(big.NewInt(1), n)
		out = append(out, x.Mod(x, prime()))
	}
	return out
}

// edges tells each pair of parts.
func edges() []whole {
	var out []whole
	for _, x := range parts() {
		for _, y := range parts() {
			out = append(out, whole{x, y})
		}
	}
	return out
}

// numbers tells the edges, and so many others; of these some have a part that is 0.
func numbers(seed int64, count int) []whole {
	out := edges()
	r := rand.New(rand.NewSource(seed))
	for range count {
		a := whole{new(big.Int).Rand(r, prime()), new(big.Int).Rand(r, prime())}
		switch r.Intn(6) {
		case 0:
			a.x = new(big.Int)
		case 1:
			a.y = new(big.Int)
		case 2:
			a.x.Rsh(a.x, uint(r.Intn(381)))
		}
		out = append(out, a)
	}
	return out
}

// pairs tells pairs of all edges with some, and so many of others.
func pairs(seed int64, count int) [][2]whole {
	r := rand.New(rand.NewSource(seed))
	var out [][2]whole
	for _, a := range edges() {
		for range 8 {
			out = append(out, [2]whole{a, edges()[r.Intn(len(edges()))]})
		}
	}
	some := numbers(seed, 2*count)[len(edges()):]
	for i := range count {
		out = append(out, [2]whole{some[2*i], some[2*i+1]})
	}
	return out
}

// part tells the element of fp of a number below p.
func part(t *testing.T, x *big.Int) fp.Elem {
	t.Helper()
	e, ok := fp.From(x.FillBytes(make([]byte, 48)))
	if !ok {
		t.Fatalf("P3.1: From of %x: false", x)
	}
	return e
}

// elem tells the element of a pair of numbers below p.
func elem(t *testing.T, a whole) fp2.Elem {
	t.Helper()
	return fp2.Elem{C0: part(t, a.x), C1: part(t, a.y)}
}

// of tells the numbers of an element.
func of(e fp2.Elem) whole {
	x, y := e.C0.Bytes(), e.C1.Bytes()
	return whole{new(big.Int).SetBytes(x[:]), new(big.Int).SetBytes(y[:])}
}

// is tells whether an element's numbers are those, and the element theirs by Equal too.
func is(t *testing.T, e fp2.Elem, want whole) bool {
	t.Helper()
	return of(e).equal(want) && e.Equal(elem(t, want)) && e.IsZero() == want.isZero()
}

// P5.1: One is 1, and changes nothing.
func TestOne(t *testing.T) {
	if !is(t, fp2.One(), small(1, 0)) {
		t.Errorf("P5.1: One: %v", of(fp2.One()))
	}
	for _, x := range edges() {
		a := elem(t, x)
		if !a.Mul(fp2.One()).Equal(a) || !fp2.One().Mul(a).Equal(a) {
			t.Errorf("P5.1: %v times 1", x)
		}
	}
}

// P5.1: a zero Elem is 0, whatever is done with it.
func TestZero(t *testing.T) {
	var zero fp2.Elem
	a := elem(t, small(5, 7))
	if !zero.IsZero() || !zero.Equal(fp2.Elem{C0: fp.Of(0), C1: fp.Of(0)}) || zero.Equal(fp2.One()) {
		t.Error("P5.1: a zero Elem isn't 0")
	}
	if !zero.Add(a).Equal(a) || !a.Add(zero).Equal(a) || !a.Sub(zero).Equal(a) || !zero.Sub(a).Equal(a.Neg()) {
		t.Error("P5.1: sums with 0")
	}
	for i, e := range []fp2.Elem{zero.Neg(), zero.Conj(), zero.Mul(a), a.Mul(zero), zero.Square(), zero.Scale(fp.Of(3)), a.Scale(fp.Elem{}), zero.Xi(), zero.Inv(), zero.Pow([]byte{7}), a.Sub(a)} {
		if !is(t, e, small(0, 0)) {
			t.Errorf("P5.1: of 0, call %d: %v", i, of(e))
		}
	}
	if root, ok := zero.Sqrt(); !ok || !root.IsZero() || !zero.IsSquare() || zero.Sgn() != 0 || zero.Large() {
		t.Error("P5.2: of 0")
	}
}

// P5.1: Equal and IsZero are those of both parts.
func TestEqual(t *testing.T) {
	for _, c := range pairs(1, 500) {
		a, b := elem(t, c[0]), elem(t, c[1])
		if a.Equal(b) != c[0].equal(c[1]) || b.Equal(a) != a.Equal(b) || !a.Equal(a) || a.IsZero() != c[0].isZero() {
			t.Fatalf("P5.1: Equal of %v and %v", c[0], c[1])
		}
		for _, near := range []fp2.Elem{{C0: a.C0.Add(fp.Of(1)), C1: a.C1}, {C0: a.C0, C1: a.C1.Add(fp.Of(1))}} {
			if a.Equal(near) || near.Equal(a) {
				t.Fatalf("P5.1: Equal of %v and %v", c[0], of(near))
			}
		}
	}
	if (fp2.Elem{C1: fp.Of(1)}).IsZero() || (fp2.Elem{C0: fp.Of(1)}).IsZero() {
		t.Error("P5.1: IsZero of i or of 1")
	}
}

// P5.1: Pow neither changes nor keeps its bytes, nor the room behind them.
func TestNotChanged(t *testing.T) {
	r := rand.New(rand.NewSource(2))
	a := small(3, 5)
	for n := range 70 {
		text := make([]byte, n)
		r.Read(text)
		room := append(bytes.Clone(text), bytes.Repeat([]byte{0xa5}, 40)...)
		before := bytes.Clone(room)
		raised := elem(t, a).Pow(room[:n])
		if !bytes.Equal(room, before) {
			t.Fatalf("P5.1: %d bytes were changed", n)
		}
		for i := range room {
			room[i] ^= 0xff
		}
		if !is(t, raised, a.pow(new(big.Int).SetBytes(text))) {
			t.Fatalf("P5.1: %d bytes were kept", n)
		}
	}
}

// P5.1, P5.2: no call changes its elements.
func TestElementsNotChanged(t *testing.T) {
	for _, c := range pairs(3, 50) {
		a, b := elem(t, c[0]), elem(t, c[1])
		a.Add(b)
		a.Sub(b)
		a.Neg()
		a.Conj()
		a.Mul(b)
		a.Square()
		a.Scale(b.C0)
		a.Xi()
		a.Inv()
		a.Pow([]byte{1, 2, 3})
		a.IsSquare()
		a.Sqrt()
		a.Sgn()
		a.Large()
		if !is(t, a, c[0]) || !is(t, b, c[1]) {
			t.Fatalf("P5.1: %v or %v was changed", c[0], c[1])
		}
	}
}
