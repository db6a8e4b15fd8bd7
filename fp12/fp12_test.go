package fp12_test

import (
	"fmt"
	"math/big"
	"math/rand"
	"testing"

	"pharos/fp"
	"pharos/fp12"
	"pharos/fp2"
	"pharos/fp6"
)

// prime tells p.
func prime() *big.Int {
	p, _ := new(big.Int).SetString("1a0111ea397fe69a4b1ba7b6434bacd764774b84f38512bf6730d2a0f6b0f6241eabfffeb153ffffb9feffffffffaaab", 16)
	return p
}

// from tells p, halved so many times, and n more.
func from(halved uint, n int64) *big.Int {
	x := prime()
	return x.Rsh(x, halved).Add(x, big.NewInt(n))
}

// whole: the numbers of 1, i, w, w i, w w, w w i and so on up to w to the power of 5, times i.
type whole [12]*big.Int

// small tells the element of these twelve; those below 0 are below p by so many.
func small(xs ...int64) whole {
	out := whole{}
	for k := range out {
		out[k] = new(big.Int)
		if k < len(xs) {
			out[k].Mod(big.NewInt(xs[k]), prime())
		}
	}
	return out
}

// single tells the element whose one number, at place, is x.
func single(place int, x *big.Int) whole {
	out := small()
	out[place] = x
	return out
}

// String tells it as text.
func (a whole) String() string { return fmt.Sprintf("%x", a[:]) }

// row: the numbers of 1, w, w w and so on up to w to the power of 11. As 1 + i is w to the power
// of 6, i is that less 1, and w to the power of 12 is 2 w^6 - 2: so that it is a field of rows,
// without i and v.
type row [12]*big.Int

// row tells the row of it.
func (a whole) row() row {
	out := row{}
	for k := range 6 {
		out[k] = new(big.Int).Sub(a[2*k], a[2*k+1])
		out[k+6] = new(big.Int).Set(a[2*k+1])
	}
	return out
}

// whole tells what has this row.
func (r row) whole() whole {
	out := whole{}
	for k := range 6 {
		out[2*k] = new(big.Int).Add(r[k], r[k+6])
		out[2*k+1] = new(big.Int).Set(r[k+6])
	}
	return out.mod()
}

// mod tells it modulo p.
func (a whole) mod() whole {
	p, out := prime(), whole{}
	for k := range out {
		out[k] = new(big.Int).Mod(a[k], p)
	}
	return out
}

func (a whole) add(b whole) whole {
	out := whole{}
	for k := range out {
		out[k] = new(big.Int).Add(a[k], b[k])
	}
	return out.mod()
}

func (a whole) sub(b whole) whole {
	out := whole{}
	for k := range out {
		out[k] = new(big.Int).Sub(a[k], b[k])
	}
	return out.mod()
}

// mul tells the product, by that of the rows.
func (a whole) mul(b whole) whole {
	long := [23]*big.Int{}
	for k := range long {
		long[k] = new(big.Int)
	}
	x, y, product := a.row(), b.row(), new(big.Int)
	for j := range x {
		for k := range y {
			long[j+k].Add(long[j+k], product.Mul(x[j], y[k]))
		}
	}
	for k := 22; k >= 12; k-- {
		twice := new(big.Int).Lsh(long[k], 1)
		long[k-6].Add(long[k-6], twice)
		long[k-12].Sub(long[k-12], twice)
	}
	return row(long[:12]).whole()
}

// pow tells it to the power of a number, bit by bit.
func (a whole) pow(e *big.Int) whole {
	out := small(1)
	for n := e.BitLen() - 1; n >= 0; n-- {
		out = out.mul(out)
		if e.Bit(n) == 1 {
			out = out.mul(a)
		}
	}
	return out
}

// conj tells it with the other sign by each odd power of w.
func (a whole) conj() whole {
	out := whole{}
	for k := range out {
		if out[k] = new(big.Int).Set(a[k]); k/2%2 == 1 {
			out[k].Neg(a[k])
		}
	}
	return out.mod()
}

func (a whole) isZero() bool { return a.equal(small()) }

func (a whole) equal(b whole) bool {
	for k := range a {
		if a[k].Cmp(b[k]) != 0 {
			return false
		}
	}
	return true
}

// numbersOfFp: numbers below p about its ends, about its half, and about the ends of limbs.
func numbersOfFp() []*big.Int {
	out := []*big.Int{from(0, -1), from(0, -2), from(1, 0), from(1, 1), from(2, 0)}
	for n := range int64(4) {
		out = append(out, big.NewInt(n))
	}
	for _, n := range []uint{64, 384} {
		x := new(big.Int).Lsh(big.NewInt(1), n)
		out = append(out, x.Mod(x, prime()))
	}
	return out
}

// choices tells choices of the twelve places, a bit a place: none, all, each one, all but each one,
// those of C0 and of C1, those without i and with it, the lower and the higher ones.
func choices() []int {
	out := []int{0, 0xfff, 0x333, 0xccc, 0x555, 0xaaa, 0x03f, 0xfc0}
	for k := range 12 {
		out = append(out, 1<<k, 0xfff-1<<k)
	}
	return out
}

// edges tells, for each of numbersOfFp and each of choices, what has it in those places and 0, or
// another number, in the others.
func edges() []whole {
	xs := numbersOfFp()
	var out []whole
	for n, x := range xs {
		for m, places := range choices() {
			other := new(big.Int)
			if n%3 == 2 {
				other = xs[m%len(xs)]
			}
			a := whole{}
			for k := range a {
				if a[k] = other; places>>k&1 == 1 {
					a[k] = x
				}
			}
			out = append(out, a)
		}
	}
	return out
}

// others tells so many more; of these some have parts that are 0, or small.
func others(seed int64, count int) []whole {
	r := rand.New(rand.NewSource(seed))
	var out []whole
	for range count {
		a := whole{}
		for k := range a {
			a[k] = new(big.Int).Rand(r, prime())
			switch r.Intn(8) {
			case 0:
				a[k].SetInt64(0)
			case 1:
				a[k].Rsh(a[k], uint(r.Intn(381)))
			}
		}
		out = append(out, a)
	}
	return out
}

// numbers tells the edges, and so many others.
func numbers(seed int64, count int) []whole {
	return append(edges(), others(seed, count)...)
}

// few tells every so many of the edges, and so many others.
func few(seed int64, each, count int) []whole {
	var out []whole
	for k, a := range edges() {
		if k%each == 0 {
			out = append(out, a)
		}
	}
	return append(out, others(seed, count)...)
}

// pairs tells pairs of all edges with some, and so many of others.
func pairs(seed int64, count int) [][2]whole {
	r := rand.New(rand.NewSource(seed))
	var out [][2]whole
	all := edges()
	for _, a := range all {
		for range 2 {
			out = append(out, [2]whole{a, all[r.Intn(len(all))]})
		}
	}
	some := others(seed, 2*count)
	for k := range count {
		out = append(out, [2]whole{some[2*k], some[2*k+1]})
	}
	return out
}

// part tells the element of fp2 of two numbers below p.
func part(t *testing.T, x, y *big.Int) fp2.Elem {
	t.Helper()
	first, ok := fp.From(x.FillBytes(make([]byte, 48)))
	second, too := fp.From(y.FillBytes(make([]byte, 48)))
	if !ok || !too {
		t.Fatalf("P3.1: From of %x and %x: false", x, y)
	}
	return fp2.Elem{C0: first, C1: second}
}

// elem tells the element of twelve numbers below p.
func elem(t *testing.T, a whole) fp12.Elem {
	t.Helper()
	return fp12.Elem{
		C0: fp6.Elem{C0: part(t, a[0], a[1]), C1: part(t, a[4], a[5]), C2: part(t, a[8], a[9])},
		C1: fp6.Elem{C0: part(t, a[2], a[3]), C1: part(t, a[6], a[7]), C2: part(t, a[10], a[11])},
	}
}

// of tells the numbers of an element.
func of(e fp12.Elem) whole {
	out := whole{}
	for k, x := range []fp2.Elem{e.C0.C0, e.C1.C0, e.C0.C1, e.C1.C1, e.C0.C2, e.C1.C2} {
		first, second := x.C0.Bytes(), x.C1.Bytes()
		out[2*k] = new(big.Int).SetBytes(first[:])
		out[2*k+1] = new(big.Int).SetBytes(second[:])
	}
	return out
}

// is tells whether an element's numbers are those, and the element theirs by Equal too.
func is(t *testing.T, e fp12.Elem, want whole) bool {
	t.Helper()
	return of(e).equal(want) && e.Equal(elem(t, want)) && e.IsZero() == want.isZero()
}

// P7.1: One is 1, and changes nothing.
func TestOne(t *testing.T) {
	if !is(t, fp12.One(), small(1)) {
		t.Errorf("P7.1: One: %v", of(fp12.One()))
	}
	for _, x := range edges() {
		a := elem(t, x)
		if !a.Mul(fp12.One()).Equal(a) || !fp12.One().Mul(a).Equal(a) {
			t.Errorf("P7.1: %v times 1", x)
		}
	}
}

// P7.1: a zero Elem is 0, whatever is done with it.
func TestZero(t *testing.T) {
	var zero fp12.Elem
	x := small(2, 3, 5, 7, 11, 13, 17, 19, 23, 29, 31, 37)
	a := elem(t, x)
	if !zero.IsZero() || !zero.Equal(a.Sub(a)) || zero.Equal(fp12.One()) || zero.Equal(a) {
		t.Error("P7.1: a zero Elem isn't 0")
	}
	if !zero.Add(a).Equal(a) || !a.Add(zero).Equal(a) || !a.Sub(zero).Equal(a) || !is(t, zero.Sub(a), small().sub(x)) {
		t.Error("P7.1: sums with 0")
	}
	for k, e := range []fp12.Elem{
		zero.Mul(a), a.Mul(zero), zero.Square(), zero.Conj(), zero.Inv(), a.Sub(a),
		zero.Frob(0), zero.Frob(1), zero.Frob(12), zero.Pow([]byte{1}), zero.Pow([]byte{0, 3}),
	} {
		if !is(t, e, small()) {
			t.Errorf("P7.1: of 0, call %d: %v", k, of(e))
		}
	}
}

// P7.1: Equal and IsZero are those of all parts.
func TestEqual(t *testing.T) {
	for _, c := range pairs(1, 300) {
		a, b := elem(t, c[0]), elem(t, c[1])
		if a.Equal(b) != c[0].equal(c[1]) || b.Equal(a) != a.Equal(b) || !a.Equal(a) || a.IsZero() != c[0].isZero() {
			t.Fatalf("P7.1: Equal of %v and %v", c[0], c[1])
		}
		for k := range 12 {
			one := single(k, big.NewInt(1))
			near := elem(t, c[0].add(one))
			if a.Equal(near) || near.Equal(a) {
				t.Fatalf("P7.1: Equal of %v and %v", c[0], of(near))
			}
			if elem(t, one).IsZero() {
				t.Fatalf("P7.1: IsZero of %v", one)
			}
		}
	}
}

// P7.1: no call changes its elements.
func TestElementsNotChanged(t *testing.T) {
	for _, c := range pairs(2, 50) {
		a, b := elem(t, c[0]), elem(t, c[1])
		a.Equal(b)
		a.IsZero()
		a.Add(b)
		a.Sub(b)
		a.Mul(b)
		a.Square()
		a.Conj()
		a.Inv()
		a.Frob(1)
		a.Pow([]byte{5})
		for _, part := range a.Parts() {
			part.C0 = fp.Of(9)
		}
		if !is(t, a, c[0]) || !is(t, b, c[1]) {
			t.Fatalf("P7.1: %v or %v was changed", c[0], c[1])
		}
	}
}

// P7.1: what a call answered stays, whatever becomes of the elements that it was given.
func TestElementsNotKept(t *testing.T) {
	for _, c := range pairs(3, 50)[:200] {
		a, b := elem(t, c[0]), elem(t, c[1])
		sum, product, turned, powered, first := a.Add(b), a.Mul(b), a.Conj(), a.Frob(0), a.Pow([]byte{1})
		a.C0, a.C1 = fp6.One(), fp6.One()
		b.C0.C1 = fp2.One()
		if !is(t, sum, c[0].add(c[1])) || !is(t, product, c[0].mul(c[1])) || !is(t, turned, c[0].conj()) ||
			!is(t, powered, c[0]) || !is(t, first, c[0]) {
			t.Fatalf("P7.1: %v or %v was kept", c[0], c[1])
		}
	}
}
