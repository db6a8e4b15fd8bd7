package pairing_test

import (
	"math/big"
	"math/rand"
	"testing"

	"pharos/fp"
	"pharos/fp12"
	"pharos/fp2"
	"pharos/fp6"
)

// hex tells the number of hexadecimal digits.
func hex(digits string) *big.Int {
	x, ok := new(big.Int).SetString(digits, 16)
	if !ok {
		panic(digits)
	}
	return x
}

// prime tells p.
func prime() *big.Int {
	return hex("1a0111ea397fe69a4b1ba7b6434bacd764774b84f38512bf6730d2a0f6b0f6241eabfffeb153ffffb9feffffffffaaab")
}

// order tells r.
func order() *big.Int {
	return hex("73eda753299d7d483339d80809a1d80553bda402fffe5bfeffffffff00000001")
}

// power tells 3 (p^12 - 1)/r.
func power() *big.Int {
	out := new(big.Int).Exp(prime(), big.NewInt(12), nil)
	out.Sub(out, big.NewInt(1))
	return out.Mul(out.Div(out, order()), big.NewInt(3))
}

// numbers: those of an element's parts by 1, w, w w and so on up to w to the power of 5, two of each:
// that without i first.
type numbers [12]*big.Int

// small tells these numbers, modulo p, and 0 for the others.
func small(list ...int64) numbers {
	out := numbers{}
	for k := range out {
		out[k] = new(big.Int)
		if k < len(list) {
			out[k].Mod(big.NewInt(list[k]), prime())
		}
	}
	return out
}

// some tells some numbers below p.
func some(r *rand.Rand) numbers {
	out := numbers{}
	for k := range out {
		out[k] = new(big.Int).Rand(r, prime())
	}
	return out
}

// elem tells the element of these numbers.
func elem(t testing.TB, n numbers) fp12.Elem {
	t.Helper()
	parts := [6]fp2.Elem{}
	for k := range parts {
		parts[k] = fp2.Elem{C0: elemOf(t, n[2*k]), C1: elemOf(t, n[2*k+1])}
	}
	return fp12.Elem{
		C0: fp6.Elem{C0: parts[0], C1: parts[2], C2: parts[4]},
		C1: fp6.Elem{C0: parts[1], C1: parts[3], C2: parts[5]},
	}
}

// elemOf tells the element of a number below p.
func elemOf(t testing.TB, x *big.Int) fp.Elem {
	t.Helper()
	out, ok := fp.From(x.FillBytes(make([]byte, 48)))
	if !ok {
		t.Fatalf("P3.1: From of %x", x)
	}
	return out
}

// row: the numbers of 1, w, w w and so on up to w to the power of 11. As 1 + i is w to the power of
// 6, i is that less 1, and w to the power of 12 is 2 w^6 - 2: so that it is a field of rows, without
// i and v.
type row [12]*big.Int

// row tells an element's numbers as those of powers of w alone.
func (n numbers) row() row {
	out := row{}
	for k := range 6 {
		out[k], out[k+6] = new(big.Int).Sub(n[2*k], n[2*k+1]), n[2*k+1]
	}
	return out.mod()
}

// numbers tells a row's numbers as those of an element.
func (r row) numbers() numbers {
	out := row{}
	for k := range 6 {
		out[2*k], out[2*k+1] = new(big.Int).Add(r[k], r[k+6]), r[k+6]
	}
	return numbers(out.mod())
}

func (r row) mod() row {
	out, p := row{}, prime()
	for k := range out {
		out[k] = new(big.Int).Mod(r[k], p)
	}
	return out
}

func (r row) mul(s row) row {
	long := [23]*big.Int{}
	for k := range long {
		long[k] = new(big.Int)
	}
	product := new(big.Int)
	for j := range r {
		for k := range s {
			long[j+k].Add(long[j+k], product.Mul(r[j], s[k]))
		}
	}
	for k := 22; k >= 12; k-- {
		twice := new(big.Int).Lsh(long[k], 1)
		long[k-6].Add(long[k-6], twice)
		long[k-12].Sub(long[k-12], twice)
	}
	return row(long[:12]).mod()
}

func (r row) pow(e *big.Int) row {
	out := small(1).row()
	for bit := e.BitLen() - 1; bit >= 0; bit-- {
		out = out.mul(out)
		if e.Bit(bit) == 1 {
			out = out.mul(r)
		}
	}
	return out
}
