package xmd_test

import (
	"crypto/sha256"
	"math/big"
	"math/rand"
	"testing"

	"pharos/fp2"
)

// text tells n bytes, the same ones for the same seed.
func text(seed int64, n int) []byte {
	b := make([]byte, n)
	rand.New(rand.NewSource(seed)).Read(b)
	return b
}

// joined tells the pieces behind one another, in new memory.
func joined(pieces ...[]byte) []byte {
	var out []byte
	for _, piece := range pieces {
		out = append(out, piece...)
	}
	return out
}

// expanded tells Expand by the chapter's words, with the library's SHA-256.
func expanded(msg, dst []byte, n int) []byte {
	d := joined(dst, []byte{byte(len(dst))})
	b0 := sha256.Sum256(joined(make([]byte, 64), msg, []byte{byte(n / 256), byte(n % 256), 0}, d))
	one := sha256.Sum256(joined(b0[:], []byte{1}, d))
	out := joined(one[:])
	for i := 2; len(out) < n; i++ {
		var mixed [32]byte
		for k := range mixed {
			mixed[k] = b0[k] ^ one[k]
		}
		one = sha256.Sum256(joined(mixed[:], []byte{byte(i)}, d))
		out = append(out, one[:]...)
	}
	return out[:n]
}

// prime tells p.
func prime() *big.Int {
	p, _ := new(big.Int).SetString("1a0111ea397fe69a4b1ba7b6434bacd764774b84f38512bf6730d2a0f6b0f6241eabfffeb153ffffb9feffffffffaaab", 16)
	return p
}

// numbers tells Fields' numbers, C0 and C1 of the first element, and so on, by the chapter's words.
func numbers(msg, dst []byte, count int) []*big.Int {
	b := expanded(msg, dst, 128*count)
	var out []*big.Int
	for len(b) > 0 {
		n := new(big.Int).SetBytes(b[:64])
		out = append(out, n.Mod(n, prime()))
		b = b[64:]
	}
	return out
}

// parts tells the numbers of elements, C0 and C1 of the first one, and so on.
func parts(l []fp2.Elem) []*big.Int {
	var out []*big.Int
	for _, e := range l {
		x, y := e.C0.Bytes(), e.C1.Bytes()
		out = append(out, new(big.Int).SetBytes(x[:]), new(big.Int).SetBytes(y[:]))
	}
	return out
}

// alike tells whether two rows of numbers are one.
func alike(a, b []*big.Int) bool {
	if len(a) != len(b) {
		return false
	}
	for i := range a {
		if a[i].Cmp(b[i]) != 0 {
			return false
		}
	}
	return true
}

// The model is held against RFC 9380 itself, so that it can't err as the program does.
func TestModel(t *testing.T) {
	for _, c := range rfcExpanded() {
		if got := expanded([]byte(c.msg), []byte(expander), len(c.want)/2); !isHex(got, c.want) {
			t.Errorf("the model's Expand of %.10q: %x", c.msg, got)
		}
	}
	for _, c := range rfcFields() {
		if got := numbers([]byte(c.msg), []byte(suite), 2); !alike(got, c.numbers()) {
			t.Errorf("the model's Fields of %.10q: %x", c.msg, got)
		}
	}
}
