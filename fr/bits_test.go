package fr_test

import (
	"iter"
	"math/big"
	"slices"
	"testing"

	"pharos/fr"
)

// set tells the numbers of the bits of x that are set, the highest first.
func set(x *big.Int) []int {
	var out []int
	for n := x.BitLen() - 1; n >= 0; n-- {
		if x.Bit(n) == 1 {
			out = append(out, n)
		}
	}
	return out
}

// P4.1: Bits are those of the element's number, the highest first, and again those if they are
// gone through once more.
func TestBits(t *testing.T) {
	for _, x := range numbers(6, 1000) {
		bits := elem(t, x).Bits()
		for time := range 2 {
			if got := slices.Collect(bits); !slices.Equal(got, set(x)) {
				t.Fatalf("P4.1: Bits of %x, time %d: %v", x, time, got)
			}
		}
	}
}

// P4.1: Bits of one bit, and of all bits below it, at each bit that r has.
func TestBitsOneByOne(t *testing.T) {
	for n := range uint(255) {
		for _, x := range []*big.Int{power(n), new(big.Int).Sub(power(n), big.NewInt(1))} {
			if got := slices.Collect(elem(t, x).Bits()); !slices.Equal(got, set(x)) {
				t.Fatalf("P4.1: Bits of %x: %v", x, got)
			}
		}
	}
}

// P4.1: Bits written out, those of what a sum, a difference, a product and Wide answer among them.
func TestBitsWrittenOut(t *testing.T) {
	most := fr.Of(1).Neg()
	for i, c := range []struct {
		a    fr.Elem
		want []int
	}{
		{fr.Elem{}, nil},
		{fr.Of(0), nil},
		{fr.Of(1), []int{0}},
		{fr.Of(2), []int{1}},
		{fr.Of(11), []int{3, 1, 0}},
		{fr.Of(1 << 63), []int{63}},
		{most.Add(fr.Of(6)), []int{2, 0}},
		{fr.Of(3).Sub(fr.Of(7)).Neg(), []int{2}},
		{most.Mul(most), []int{0}},
		{fr.Wide(from(1, 0, 9).Bytes()), []int{3, 0}},
	} {
		if got := slices.Collect(c.a.Bits()); !slices.Equal(got, c.want) {
			t.Errorf("P4.1: line %d: %v, wanted %v", i, got, c.want)
		}
	}
}

// P4.1: Bits may be left at any of them, and are those from the beginning thereafter.
func TestBitsLeft(t *testing.T) {
	for _, x := range numbers(7, 5) {
		bits, want := elem(t, x).Bits(), set(x)
		for n := range want {
			var got []int
			for bit := range bits {
				got = append(got, bit)
				if len(got) == n+1 {
					break
				}
			}
			if !slices.Equal(got, want[:n+1]) {
				t.Fatalf("P4.1: the first %d bits of %x: %v", n+1, x, got)
			}
		}
		if !slices.Equal(slices.Collect(bits), want) {
			t.Fatalf("P4.1: Bits of %x when they had been left", x)
		}
	}
}

// P4.1: no bit comes when Bits were left.
func TestBitsStop(t *testing.T) {
	for _, x := range edges() {
		count := 0
		elem(t, x).Bits()(func(int) bool { count++; return false })
		if count != min(1, len(set(x))) {
			t.Errorf("P4.1: %d bits of %x when the first one left them", count, x)
		}
	}
}

// P4.1: Bits of one element within those of another, and of the same one, don't disturb it.
func TestBitsWithin(t *testing.T) {
	a, b := from(1, 1, 5), from(1, 0, -8)
	for _, inner := range []iter.Seq[int]{elem(t, a).Bits(), elem(t, b).Bits()} {
		var got []int
		want := slices.Collect(inner)
		for bit := range elem(t, a).Bits() {
			got = append(got, bit)
			if !slices.Equal(slices.Collect(inner), want) {
				t.Fatalf("P4.1: Bits within bit %d", bit)
			}
		}
		if !slices.Equal(got, set(a)) {
			t.Errorf("P4.1: Bits about others: %v", got)
		}
	}
}
