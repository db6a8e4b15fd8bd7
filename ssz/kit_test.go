package ssz_test

import (
	"bytes"
	"encoding/binary"
	"math/big"
	"math/rand"
	"slices"
	"testing"

	"pharos/api"
	"pharos/ssz"
)

// text tells so many bytes that hang on a seed.
func text(seed int64, size int) []byte {
	b := make([]byte, size)
	rand.New(rand.NewSource(seed)).Read(b)
	return b
}

// bits tells so many bits that hang on a seed.
func bits(seed int64, count int) []bool {
	r := rand.New(rand.NewSource(seed))
	l := make([]bool, count)
	for i := range l {
		l[i] = r.Intn(2) == 1
	}
	return l
}

// low tells the lowest bits of a number, the lowest first.
func low(n uint64, count int) []bool {
	var l []bool
	for i := range count {
		l = append(l, n>>i&1 == 1)
	}
	return l
}

// numbers tells numbers at all edges of bytes and bits, and others.
func numbers() []uint64 {
	l := []uint64{0, 0x0102030405060708, 0xf0debc9a78563412}
	for i := range 64 {
		l = append(l, 1<<i, 1<<i-1, ^uint64(1<<i))
	}
	l = append(l, 1<<64-1)
	r := rand.New(rand.NewSource(1))
	for range 200 {
		l = append(l, r.Uint64())
	}
	return l
}

// asBytes tells the bytes of bits, by way of one great number.
func asBytes(l []bool) []byte {
	n := new(big.Int)
	for i, set := range l {
		if set {
			n.SetBit(n, i, 1)
		}
	}
	b := n.FillBytes(make([]byte, (len(l)+7)/8))
	slices.Reverse(b)
	return b
}

// thing: something that is written and read: a number, bytes or bits.
type thing interface {
	bytes() []byte
	write(w *ssz.Writer)
	read(r *ssz.Reader) bool  // whether it comes back
	fails(r *ssz.Reader) bool // whether nothing comes
}

type number uint64

func (n number) bytes() []byte            { return binary.LittleEndian.AppendUint64(nil, uint64(n)) }
func (n number) write(w *ssz.Writer)      { w.Uint(uint64(n)) }
func (n number) read(r *ssz.Reader) bool  { return r.Uint() == uint64(n) }
func (n number) fails(r *ssz.Reader) bool { return r.Uint() == 0 }

type raw []byte

func (b raw) bytes() []byte            { return b }
func (b raw) write(w *ssz.Writer)      { w.Bytes(b) }
func (b raw) read(r *ssz.Reader) bool  { return bytes.Equal(r.Bytes(len(b)), b) }
func (b raw) fails(r *ssz.Reader) bool { return len(r.Bytes(len(b))) == 0 }

type flags []bool

func (l flags) bytes() []byte            { return asBytes(l) }
func (l flags) write(w *ssz.Writer)      { w.Bits(l) }
func (l flags) read(r *ssz.Reader) bool  { return slices.Equal(r.Bits(len(l)), l) }
func (l flags) fails(r *ssz.Reader) bool { return len(r.Bits(len(l))) == 0 }

// row tells a row of things that hang on a seed, some of them without bytes.
func row(seed int64) []thing {
	r := rand.New(rand.NewSource(seed))
	var l []thing
	for range r.Intn(12) {
		switch r.Intn(3) {
		case 0:
			l = append(l, number(r.Uint64()))
		case 1:
			l = append(l, raw(text(r.Int63(), r.Intn(70))))
		case 2:
			l = append(l, flags(bits(r.Int63(), r.Intn(70))))
		}
	}
	return l
}

// allBytes tells the bytes of a row of things.
func allBytes(l []thing) []byte {
	var b []byte
	for _, x := range l {
		b = append(b, x.bytes()...)
	}
	return b
}

// written tells what a new Writer has, told by f what to write.
func written(f func(w *ssz.Writer)) []byte {
	var w ssz.Writer
	f(&w)
	return w.All()
}

// wantFailed fails if r hasn't failed with an error, or if a read of any kind tells anything.
func wantFailed(t *testing.T, promise string, r *ssz.Reader, want api.Errno) {
	t.Helper()
	for range 2 {
		if r.Err() != want || r.End() != want {
			t.Fatalf("%s: behind a failed read: Err %d, End %d, not %d", promise, r.Err(), r.End(), want)
		}
		for _, n := range []int{-1, 0, 1, 8, 1 << 40} {
			if b, l := r.Bytes(n), r.Bits(n); len(b) != 0 || len(l) != 0 {
				t.Fatalf("%s: behind a failed read: %d bytes: %x, bits: %t", promise, n, b, l)
			}
		}
		if n := r.Uint(); n != 0 {
			t.Fatalf("%s: behind a failed read: %d", promise, n)
		}
	}
}
