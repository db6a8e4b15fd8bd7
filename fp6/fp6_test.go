package fp6_test

import (
	"fmt"
	"math/big"
	"math/rand"
	"testing"

	"pharos/fp"
	"pharos/fp2"
	"pharos/fp6"
)

// prime tells p.
func prime() *big.Int {
	p, _ := new(big.Int).SetString("1a0111ea397fe69a4b1ba7b6434bacd764774b84f38512bf6730d2a0f6b0f6241eabfffeb153ffffb9feffffffffaaab", 16)
	return p
}

// from tells p, halved so many times, and n more.
func from(halved uint, n int64) *big.Int {
	x := prime()
	return x.Rsh(x, halved).Add(x, big.NewInt(n))
}

// whole: the numbers of 1, i, v, v i, v v and v v i.
type whole [6]*big.Int

// small tells the element of these six; those below 0 are below p by so many.
func small(xs ...int64) whole {
	out := whole{}
	for k := range out {
		out[k] = new(big.Int)
		if k < len(xs) {
			out[k].Mod(big.NewInt(xs[k]), prime())
		}
	}
	return out
}

// String tells it as text.
func (a whole) String() string { return fmt.Sprintf("%x", a[:]) }

// row: the numbers of 1, v, v v and so on up to v to the power of 5. As 1 + i is v v v, i is
// v v v - 1, and v to the power of 6 is 2 v v v - 2: so that it is a field of rows, without i.
type row [6]*big.Int

// row tells the row of it.
func (a whole) row() row {
	out := row{}
	for k := range 3 {
		out[k] = new(big.Int).Sub(a[2*k], a[2*k+1])
		out[k+3] = new(big.Int).Set(a[2*k+1])
	}
	return out
}

// whole tells what has this row.
func (r row) whole() whole {
	out := whole{}
	for k := range 3 {
		out[2*k] = new(big.Int).Add(r[k], r[k+3])
		out[2*k+1] = new(big.Int).Set(r[k+3])
	}
	return out.mod()
}

// mod tells it modulo p.
func (a whole) mod() whole {
	out := whole{}
	for k := range out {
		out[k] = new(big.Int).Mod(a[k], prime())
	}
	return out
}

func (a whole) add(b whole) whole {
	out := whole{}
	for k := range out {
		out[k] = new(big.Int).Add(a[k], b[k])
	}
	return out.mod()
}

func (a whole) sub(b whole) whole {
	out := whole{}
	for k := range out {
		out[k] = new(big.Int).Sub(a[k], b[k])
	}
	return out.mod()
}

// mul tells the product, by that of the rows.
func (a whole) mul(b whole) whole {
	long := [11]*big.Int{}
	for k := range long {
		long[k] = new(big.Int)
	}
	x, y := a.row(), b.row()
	for j := range x {
		for k := range y {
			long[j+k].Add(long[j+k], new(big.Int).Mul(x[j], y[k]))
		}
	}
	for k := 10; k >= 6; k-- {
		twice := new(big.Int).Lsh(long[k], 1)
		long[k-3].Add(long[k-3], twice)
		long[k-6].Sub(long[k-6], twice)
	}
	return row(long[:6]).whole()
}

// pow tells it to the power of a number, bit by bit.
func (a whole) pow(e *big.Int) whole {
	out := small(1)
	for n := e.BitLen() - 1; n >= 0; n-- {
		out = out.mul(out)
		if e.Bit(n) == 1 {
			out = out.mul(a)
		}
	}
	return out
}

func (a whole) isZero() bool { return a.equal(small()) }

func (a whole) equal(b whole) bool {
	for k := range a {
		if a[k].Cmp(b[k]) != 0 {
			return false
		}
	}
	return true
}

// parts: numbers below p about its ends, about its half, and about the ends of limbs.
func parts() []*big.Int {
	out := []*big.Int{from(0, -1), from(0, -2), from(1, 0), from(1, 1), from(2, 0)}
	for n := range int64(4) {
		out = append(out, big.NewInt(n))
	}
	for _, n := range []uint{64, 384} {
		x := new(big.Int).Lsh(big.NewInt(1), n)
		out = append(out, x.Mod(x, prime()))
	}
	return out
}

// edges tells, for each of parts and each choice of the six places, what has it in those places
// and 0, or another of parts, in the others.
func edges() []whole {
	var out []whole
	for n, x := range parts() {
		for places := range 64 {
			other := new(big.Int)
			if n%3 == 2 {
				other = parts()[places%len(parts())]
			}
			a := whole{}
			for k := range a {
				if a[k] = other; places>>k&1 == 1 {
					a[k] = x
				}
			}
			out = append(out, a)
		}
	}
	return out
}

// others tells so many more; of these some have parts that are 0, or small.
func others(seed int64, count int) []whole {
	r := rand.New(rand.NewSource(seed))
	var out []whole
	for range count {
		a := whole{}
		for k := range a {
			a[k] = new(big.Int).Rand(r, prime())
			switch r.Intn(8) {
			case 0:
				a[k].SetInt64(0)
			case 1:
				a[k].Rsh(a[k], uint(r.Intn(381)))
			}
		}
		out = append(out, a)
	}
	return out
}

// numbers tells the edges, and so many others.
func numbers(seed int64, count int) []whole {
	return append(edges(), others(seed, count)...)
}

// few tells every so many of the edges, and so many others.
func few(seed int64, each, count int) []whole {
	var out []whole
	for k, a := range edges() {
		if k%each == 0 {
			out = append(out, a)
		}
	}
	return append(out, others(seed, count)...)
}

// pairs tells pairs of all edges with some, and so many of others.
func pairs(seed int64, count int) [][2]whole {
	r := rand.New(rand.NewSource(seed))
	var out [][2]whole
	all := edges()
	for _, a := range all {
		for range 2 {
			out = append(out, [2]whole{a, all[r.Intn(len(all))]})
		}
	}
	some := others(seed, 2*count)
	for k := range count {
		out = append(out, [2]whole{some[2*k], some[2*k+1]})
	}
	return out
}

// part tells the element of fp of a number below p.
func part(t *testing.T, x *big.Int) fp.Elem {
	t.Helper()
	e, ok := fp.From(x.FillBytes(make([]byte, 48)))
	if !ok {
		t.Fatalf("P3.1: From of %x: false", x)
	}
	return e
}

// elem tells the element of six numbers below p.
func elem(t *testing.T, a whole) fp6.Elem {
	t.Helper()
	return fp6.Elem{
		C0: fp2.Elem{C0: part(t, a[0]), C1: part(t, a[1])},
		C1: fp2.Elem{C0: part(t, a[2]), C1: part(t, a[3])},
		C2: fp2.Elem{C0: part(t, a[4]), C1: part(t, a[5])},
	}
}

// of tells the numbers of an element.
func of(e fp6.Elem) whole {
	out := whole{}
	for k, x := range []fp.Elem{e.C0.C0, e.C0.C1, e.C1.C0, e.C1.C1, e.C2.C0, e.C2.C1} {
		raw := x.Bytes()
		out[k] = new(big.Int).SetBytes(raw[:])
	}
	return out
}

// is tells whether an element's numbers are those, and the element theirs by Equal too.
func is(t *testing.T, e fp6.Elem, want whole) bool {
	t.Helper()
	return of(e).equal(want) && e.Equal(elem(t, want)) && e.IsZero() == want.isZero()
}

// P6.1: One is 1, and changes nothing.
func TestOne(t *testing.T) {
	if !is(t, fp6.One(), small(1)) {
		t.Errorf("P6.1: One: %v", of(fp6.One()))
	}
	for _, x := range edges() {
		a := elem(t, x)
		if !a.Mul(fp6.One()).Equal(a) || !fp6.One().Mul(a).Equal(a) {
			t.Errorf("P6.1: %v times 1", x)
		}
	}
}

// P6.1: a zero Elem is 0, whatever is done with it.
func TestZero(t *testing.T) {
	var zero fp6.Elem
	a := elem(t, small(5, 7, 11, 13, 17, 19))
	if !zero.IsZero() || !zero.Equal(a.Sub(a)) || zero.Equal(fp6.One()) || zero.Equal(a) {
		t.Error("P6.1: a zero Elem isn't 0")
	}
	if !zero.Add(a).Equal(a) || !a.Add(zero).Equal(a) || !a.Sub(zero).Equal(a) || !zero.Sub(a).Equal(a.Neg()) {
		t.Error("P6.1: sums with 0")
	}
	for k, e := range []fp6.Elem{zero.Neg(), zero.Mul(a), a.Mul(zero), zero.Square(), zero.Scale(a.C1), a.Scale(fp2.Elem{}), zero.V(), zero.Inv(), zero.Frob(1), zero.Frob(6), a.Sub(a)} {
		if !is(t, e, small()) {
			t.Errorf("P6.1: of 0, call %d: %v", k, of(e))
		}
	}
}

// P6.1: Equal and IsZero are those of all parts.
func TestEqual(t *testing.T) {
	for _, c := range pairs(1, 500) {
		a, b := elem(t, c[0]), elem(t, c[1])
		if a.Equal(b) != c[0].equal(c[1]) || b.Equal(a) != a.Equal(b) || !a.Equal(a) || a.IsZero() != c[0].isZero() {
			t.Fatalf("P6.1: Equal of %v and %v", c[0], c[1])
		}
		for k := range 6 {
			one := small()
			one[k] = big.NewInt(1)
			near := elem(t, c[0].add(one))
			if a.Equal(near) || near.Equal(a) {
				t.Fatalf("P6.1: Equal of %v and %v", c[0], of(near))
			}
			if elem(t, one).IsZero() {
				t.Fatalf("P6.1: IsZero of %v", one)
			}
		}
	}
}

// P6.1: no call changes its elements.
func TestElementsNotChanged(t *testing.T) {
	for _, c := range pairs(2, 50) {
		a, b := elem(t, c[0]), elem(t, c[1])
		a.Equal(b)
		a.IsZero()
		a.Add(b)
		a.Sub(b)
		a.Neg()
		a.Mul(b)
		a.Square()
		a.Scale(b.C0)
		a.V()
		a.Inv()
		a.Frob(1)
		if !is(t, a, c[0]) || !is(t, b, c[1]) {
			t.Fatalf("P6.1: %v or %v was changed", c[0], c[1])
		}
	}
}

// P6.1: what a call answered stays, whatever becomes of the elements that it was given.
func TestElementsNotKept(t *testing.T) {
	for _, c := range pairs(3, 50)[:200] {
		a, b := elem(t, c[0]), elem(t, c[1])
		sum, product, turned, scaled := a.Add(b), a.Mul(b), a.V(), a.Scale(b.C0)
		powered := a.Frob(0)
		a.C0, a.C1, a.C2 = fp2.One(), fp2.One(), fp2.One()
		b.C0.C1 = fp.Of(9)
		if !is(t, sum, c[0].add(c[1])) || !is(t, product, c[0].mul(c[1])) || !is(t, turned, c[0].mul(small(0, 0, 1))) ||
			!is(t, scaled, c[0].mul(whole{c[1][0], c[1][1], new(big.Int), new(big.Int), new(big.Int), new(big.Int)})) || !is(t, powered, c[0]) {
			t.Fatalf("P6.1: %v or %v was kept", c[0], c[1])
		}
	}
}
